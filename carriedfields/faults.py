"""The faults that a kind can have in its library, in the order in which they are looked for (point 13)."""

from carriedfields.levels import Body, is_body_right
from carriedfields.lines import constants_of, levels_of, line_of, methods_of
from carriedfields.values import is_mark_or_none

MOST_FIELDS = 5
MOST_METHODS = 6


def are_bases_right(kind, earlier):
    """Whether each base is an earlier kind and stands once."""
    names = [other.name for other in earlier]
    return all([base in names for base in kind.bases]) and len(set(kind.bases)) == len(kind.bases)


def is_first_right(first, line, marks):
    """Whether the first value of a field is None, a mark or a constant of the line."""
    if isinstance(first, tuple):
        return first[1] in constants_of(line)
    return is_mark_or_none(first, marks)


def are_fields_right(kind, line, earlier, marks):
    """Whether the first values are there, and no earlier kind gives a field another level."""
    if not all([is_first_right(first, line, marks) for _, _, first in kind.fields]):
        return False
    levels = {name: level for name, level, _ in kind.fields}
    fields = [field for other in earlier for field in other.fields]
    return all([levels.get(name, level) == level for name, level, _ in fields])


def outside_of(method):
    """What all methods of one name have in common."""
    return (len(method.params), method.level, method.role)


def are_methods_right(kind, earlier, marks):
    """Whether no parameter is a mark, and no earlier kind has an unlike method of the same name."""
    if any([param in marks for method in kind.methods for param in method.params]):
        return False
    outsides = {method.name: outside_of(method) for method in kind.methods}
    methods = [method for other in earlier for method in other.methods]
    return all([outsides.get(method.name, outside_of(method)) == outside_of(method) for method in methods])


def are_rows_right(kind, line, marks):
    """Whether the rows of all methods of a kind are right."""
    levels = levels_of(line)
    constants = constants_of(line)
    bodies = [
        Body(method.rows, levels, constants, marks, params=method.params, level=method.level)
        for method in kind.methods
    ]
    return all([is_body_right(body) for body in bodies])


def is_carry_right(kind, line, marks):
    """Whether a kind has no carry, or one whose fields and rows are right."""
    if kind.carry is None:
        return True
    levels = levels_of(line)
    if not all([name in levels for name in kind.carry.keep + kind.carry.save]):
        return False
    return is_body_right(Body(kind.carry.again, levels, constants_of(line), marks))


def is_size_right(line):
    """Whether an object has few enough fields and methods."""
    return len(levels_of(line)) <= MOST_FIELDS and len(methods_of(line)) <= MOST_METHODS


def first_fault(kind, earlier, marks):
    """The first fault of a kind behind earlier kinds without faults, or None."""
    if kind.name in [other.name for other in earlier]:
        return "name"
    if not are_bases_right(kind, earlier):
        return "bases"
    line = line_of(kind, earlier)
    if line is None:
        return "line"
    if not all([is_mark_or_none(value, marks) for _, value in kind.constants]):
        return "constants"
    if not are_fields_right(kind, line, earlier, marks):
        return "fields"
    if not are_methods_right(kind, earlier, marks):
        return "methods"
    if not are_rows_right(kind, line, marks):
        return "rows"
    if not is_carry_right(kind, line, marks):
        return "carry"
    if not is_size_right(line):
        return "size"
    return None
