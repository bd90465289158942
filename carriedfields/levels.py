"""Which rows are right for the kind that they stand in: what they use, and levels (points 8 and 13)."""

from carriedfields.forms import flat_rows
from carriedfields.words import HIGHEST_LEVEL


def given_words(rows):
    """The words that a let or super of a body gives a value."""
    givers = [row for row in flat_rows(rows) if row[0] in ("let", "super")]
    return tuple([row[1] for row in givers if row[1] is not None])


class Body:
    """Rows, and what they may use: fields with their levels, constants, marks and words."""

    def __init__(self, rows, levels, constants, marks, *, params=(), level=0):
        self.rows = rows
        self.levels = levels
        self.constants = constants
        self.marks = marks
        self.params = params
        self.level = level
        self.words = marks + params + given_words(rows)


def level_of(expression, body):
    """The level of an expression, or None if it uses what is not there or has too high a level."""
    if expression is None:
        return 0
    if isinstance(expression, str):
        return 0 if expression in body.words else None
    if expression[0] == "self":
        return body.levels.get(expression[1])
    if expression[0] == "cls":
        return 0 if expression[1] in body.constants else None
    parts = [level_of(part, body) for part in expression[1:]]
    if None in parts or max(parts) == HIGHEST_LEVEL:
        return None
    return max(parts) + 1


def is_set_right(row, body):
    """Whether the row ("set", FIELD, EXPRESSION) is right."""
    if row[1] not in body.levels:
        return False
    most = body.levels[row[1]]
    level = level_of(row[2], body)
    if most == 0 or row[2] is None:
        return level == 0
    return level is not None and 1 <= level <= most


def is_return_right(row, body):
    """Whether the row ("return", EXPRESSION) is right."""
    level = level_of(row[1], body)
    return level is not None and level <= body.level


def is_super_right(row, body):
    """Whether the row ("super", WORD, EXPRESSION, ..) is right."""
    if row[1] in body.marks or (row[1] is not None and body.level > 0):
        return False
    parts = row[2:]
    return len(parts) == len(body.params) and all([level_of(part, body) == 0 for part in parts])


def is_test_right(one, sign, other, body):
    """Whether the test of an if row is right."""
    level = level_of(one, body)
    if level is None:
        return False
    if level > 0:
        return sign in ("is", "is not") and other is None
    return level_of(other, body) == 0


def is_row_right(row, body):
    """Whether a row of a body is right; the rows within an if are not looked at."""
    head = row[0]
    if head == "set":
        return is_set_right(row, body)
    if head == "let":
        return row[1] not in body.marks and level_of(row[2], body) == 0
    if head == "return":
        return is_return_right(row, body)
    if head == "refuse":
        return level_of(row[1], body) == 0
    if head == "super":
        return is_super_right(row, body)
    return is_test_right(row[1], row[2], row[3], body)


def is_body_right(body):
    """Whether all rows of a body are right."""
    return all([is_row_right(row, body) for row in flat_rows(body.rows)])
