"""The forms of expressions and rows (points 7 and 8), whatever the kind they stand in."""

from carriedfields.errors import BadRow
from carriedfields.words import is_constant, is_word

MOST_MAKERS = 3
MOST_ROWS = 16
MOST_IFS = 4
SIGNS = ("is", "is not", "==", "!=")
METHOD_HEADS = ("set", "let", "return", "refuse", "super", "if")
CARRY_HEADS = ("set", "let", "if")


def is_use_of_constant(value):
    """Whether any value is ("cls", CONSTANT)."""
    return isinstance(value, tuple) and len(value) == 2 and value[0] == "cls" and is_constant(value[1])


def is_use_of_field(value):
    """Whether any value is ("self", FIELD)."""
    return isinstance(value, tuple) and len(value) == 2 and value[0] == "self" and is_word(value[1])


def is_expression(value, makers=MOST_MAKERS):
    """Whether any value is an expression in which makers stand at most so deep in one another."""
    if value is None or is_word(value) or is_use_of_field(value) or is_use_of_constant(value):
        return True
    if not isinstance(value, tuple) or len(value) not in (2, 3):
        return False
    if makers == 0 or not is_word(value[0]):
        return False
    return all([is_expression(part, makers - 1) for part in value[1:]])


def is_test(one, sign, other, makers=MOST_MAKERS):
    """Whether any three values are an expression, a sign and an expression."""
    return is_expression(one, makers) and sign in SIGNS and is_expression(other, makers)


def is_if(row):
    """Whether a tuple is an if row; the rows in its two tuples are not looked at."""
    if len(row) != 6 or not is_test(row[1], row[2], row[3]):
        return False
    return isinstance(row[4], tuple) and isinstance(row[5], tuple)


def is_super(row):
    """Whether a tuple is a super row with any number of expressions."""
    if len(row) < 2 or not (row[1] is None or is_word(row[1])):
        return False
    return all([is_expression(part) for part in row[2:]])


def is_row(row, heads):
    """Whether any value has the form of a row that begins with one of these heads."""
    if not isinstance(row, tuple) or len(row) == 0 or row[0] not in heads:
        return False
    head = row[0]
    if head == "if":
        return is_if(row)
    if head == "super":
        return is_super(row)
    if head in ("set", "let"):
        return len(row) == 3 and is_word(row[1]) and is_expression(row[2])
    return len(row) == 2 and is_expression(row[1])


def first_wrong_row(rows, heads):
    """The index of the first row that may not stand where it stands, or None."""
    waiting = [(row, 0) for row in reversed(list(rows))]
    at = 0
    while waiting:
        row, ifs = waiting.pop()
        if at == MOST_ROWS or ifs > MOST_IFS or not is_row(row, heads):
            return at
        if row[0] == "if":
            waiting.extend([(inner, ifs + 1) for inner in reversed(list(row[4] + row[5]))])
        at += 1
    return None


def check_rows(rows, heads):
    """Raise BadRow if any value is no body of rows with these heads."""
    if not isinstance(rows, tuple):
        raise BadRow(-1)
    at = first_wrong_row(rows, heads)
    if at is not None:
        raise BadRow(at)


def flat_rows(rows):
    """All rows of a body that has the right forms, in the order in which they are counted."""
    found = []
    for row in rows:
        found.append(row)
        if row[0] == "if":
            found.extend(flat_rows(row[4] + row[5]))
    return found
