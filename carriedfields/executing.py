"""What rows and calls do (points 8, 12 and 18)."""

from carriedfields.values import do_agree, is_passable, trace_of


class Work:
    """What rows work on: the values of an object's fields, words of their own, and the later versions."""

    def __init__(self, shape, held, words, later):
        self.shape = shape
        self.held = held
        self.words = words
        self.later = later


def value_of(expression, work):
    """The value of an expression."""
    if expression is None:
        return None
    if isinstance(expression, str):
        return expression if expression in work.shape.library.marks else work.words.get(expression)
    if expression[0] == "self":
        return work.held[expression[1]]
    if expression[0] == "cls":
        return work.shape.constants[expression[1]]
    return (expression[0], *[trace_of(value_of(part, work)) for part in expression[1:]])


def does_hold(one, sign, other, work):
    """Whether a test holds."""
    left = value_of(one, work)
    right = value_of(other, work)
    if sign == "is":
        return left == right
    if sign == "is not":
        return left != right
    return do_agree(left, right) == (sign == "==")


def end_of_super(row, work):
    """Execute a super row: the report with which it ends the call, or None."""
    things = [value_of(part, work) for part in row[2:]]
    report = report_of(work.later, things, work.shape, work.held)
    if report[0] == "refused":
        return report
    if row[1] is not None:
        work.words[row[1]] = report[1]
    return None


def end_of_row(row, work):
    """Execute a row: the report with which it ends the call, or None."""
    head = row[0]
    if head == "if":
        return end_of_rows(row[4] if does_hold(row[1], row[2], row[3], work) else row[5], work)
    if head == "return":
        return ("told", value_of(row[1], work))
    if head == "refuse":
        return ("refused", value_of(row[1], work))
    if head == "super":
        return end_of_super(row, work)
    value = value_of(row[2], work)
    if head == "set":
        work.held[row[1]] = value
    else:
        work.words[row[1]] = value
    return None


def end_of_rows(rows, work):
    """Execute rows: the report with which they end the call, or None."""
    for row in rows:
        report = end_of_row(row, work)
        if report is not None:
            return report
    return None


def report_of(versions, things, shape, held):
    """Execute the first of these versions of a method; what it sets stands in held afterwards."""
    if not versions:
        return ("told", None)
    method = versions[0]
    words = dict(zip(method.params, things))
    report = end_of_rows(method.rows, Work(shape, held, words, versions[1:]))
    return ("told", None) if report is None else report


def held_by(shape, values):
    """For each field of an object its value."""
    return {name: value for (name, _), value in zip(shape.fields, values)}


def has_method(shape, name):
    """Whether any value is the name of a method."""
    return isinstance(name, str) and name in shape.versions


def first_wrong_thing(shape, things):
    """The index of the first of any values that a caller cannot pass, or None."""
    for at, thing in enumerate(things):
        if not is_passable(thing, shape.library.marks):
            return at
    return None


def is_call(shape, step):
    """Whether any value is a call, at whatever moment it may be possible."""
    if not isinstance(step, tuple) or len(step) < 2 or step[0] != "call" or not has_method(shape, step[1]):
        return False
    things = step[2:]
    return len(things) == len(shape.versions[step[1]][0].params) and first_wrong_thing(shape, things) is None


def is_possible(role, within):
    """Whether a method with this role can be called."""
    return role is None or within == (role == "leave")


def can_call(shape, name, within):
    """Whether the method of this name can be called."""
    return is_possible(shape.versions[name][0].role, within)


def is_within_behind(role, within, report):
    """Whether an object is within behind a call of a method with this role."""
    if role is None:
        return within
    return role == "enter" and report[0] == "told"


def outcome(shape, state, name, things):
    """The report of a call that is possible, and the state behind it."""
    values, within = state
    versions = shape.versions[name]
    held = held_by(shape, values)
    report = report_of(versions, things, shape, held)
    return (report, (tuple(held.values()), is_within_behind(versions[0].role, within, report)))
