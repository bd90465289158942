"""Values of fields and states of objects: what they are, traces, and what agrees (points 5, 6 and 17)."""

from carriedfields.words import is_integer, is_word


def is_thing(value):
    """Whether any value is a thing, own or a copy."""
    if not isinstance(value, tuple) or len(value) != 2:
        return False
    return is_integer(value[0]) and is_integer(value[1]) and value[0] >= 0


def is_mark_or_none(value, marks):
    """Whether any value is None or one of these marks."""
    return value is None or value in marks


def is_passable(value, marks):
    """Whether any value is one that a caller passes."""
    return is_mark_or_none(value, marks) or (is_thing(value) and value[1] >= 0)


def is_trace(value, marks, depth):
    """Whether any value is a trace; a derived value in it has at most this depth."""
    if is_integer(value):
        return value >= 0
    return is_mark_or_none(value, marks) or is_derived(value, marks, depth)


def is_derived(value, marks, depth):
    """Whether any value is a derived value of at most this depth."""
    if depth == 0 or not isinstance(value, tuple) or len(value) not in (2, 3):
        return False
    return is_word(value[0]) and all([is_trace(part, marks, depth - 1) for part in value[1:]])


def is_value_of(value, level, marks):
    """Whether any value is one of a field of this level."""
    if level == 0:
        return is_mark_or_none(value, marks) or is_thing(value)
    return value is None or is_derived(value, marks, level)


def is_values(shape, value):
    """Whether any value is the values of an object."""
    if not isinstance(value, tuple) or len(value) != len(shape.fields):
        return False
    marks = shape.library.marks
    return all([is_value_of(part, level, marks) for part, (_, level) in zip(value, shape.fields)])


def is_state(shape, value):
    """Whether any value is a state of an object."""
    if not isinstance(value, tuple) or len(value) != 2:
        return False
    return is_values(shape, value[0]) and isinstance(value[1], bool)


def has_number(value):
    """Whether a value of a field, of which it is known that it is one, is a thing."""
    return isinstance(value, tuple) and not isinstance(value[0], str)


def trace_of(value):
    """The trace of a value of a field."""
    return value[0] if has_number(value) else value


def do_agree(one, other):
    """Whether two plain values agree."""
    return one == other or (has_number(one) and has_number(other) and one[0] == other[0])
