"""Methods, carries and kinds: the parts of a library, each right by itself (points 9, 10 and 16)."""

from carriedfields.errors import BadCarry, BadKind, BadMethod, BadName
from carriedfields.forms import CARRY_HEADS, METHOD_HEADS, check_rows, is_use_of_constant
from carriedfields.words import are_different_words, is_constant, is_level, is_word

MOST_PARAMS = 2


def is_role(value):
    """Whether any value is a role."""
    return value is None or value in ("enter", "leave")


def is_constant_entry(entry):
    """Whether any value is a pair of a constant and its value."""
    if not isinstance(entry, tuple) or len(entry) != 2:
        return False
    return is_constant(entry[0]) and (entry[1] is None or is_word(entry[1]))


def is_first(value):
    """Whether any value may be the first value of a field of level 0."""
    return value is None or is_word(value) or is_use_of_constant(value)


def is_field_entry(entry):
    """Whether any value is a field: a name, a level and a first value."""
    if not isinstance(entry, tuple) or len(entry) != 3:
        return False
    name, level, first = entry
    if not is_word(name) or not is_level(level):
        return False
    return first is None or (level == 0 and is_first(first))


def are_constants(value):
    """Whether any value is a tuple of constants with different names."""
    if not isinstance(value, tuple) or not all([is_constant_entry(entry) for entry in value]):
        return False
    return len({entry[0] for entry in value}) == len(value)


def are_fields(value):
    """Whether any value is a tuple of fields with different names."""
    if not isinstance(value, tuple) or not all([is_field_entry(entry) for entry in value]):
        return False
    return len({entry[0] for entry in value}) == len(value)


def are_methods(value):
    """Whether any value is a tuple of methods with different names."""
    if not isinstance(value, tuple) or not all([isinstance(entry, Method) for entry in value]):
        return False
    return len({entry.name for entry in value}) == len(value)


class Method:
    """A method: a name, parameters, rows, a level and a role."""

    def __init__(self, name, *params, rows=(), level=0, role=None):
        if not is_word(name):
            raise BadName(name)
        for at, param in enumerate(params):
            if not is_word(param) or param in params[:at]:
                raise BadName(param)
        if len(params) > MOST_PARAMS:
            raise BadMethod("params")
        if not is_level(level):
            raise BadMethod("level")
        if not is_role(role):
            raise BadMethod("role")
        check_rows(rows, METHOD_HEADS)
        self.name = name
        self.params = params
        self.rows = rows
        self.level = level
        self.role = role

    def __eq__(self, other):
        return (
            isinstance(other, Method)
            and self.name == other.name
            and self.params == other.params
            and self.rows == other.rows
            and self.level == other.level
            and self.role == other.role
        )


class Carry:
    """What a class carries: kept and saved fields, rows of again, and whether it says more."""

    def __init__(self, *, keep=(), save=(), again=(), more=True):
        if not are_different_words(keep):
            raise BadCarry("keep")
        if not are_different_words(save) or any([word in keep for word in save]):
            raise BadCarry("save")
        check_rows(again, CARRY_HEADS)
        if not isinstance(more, bool):
            raise BadCarry("more")
        self.keep = keep
        self.save = save
        self.again = again
        self.more = more

    def __eq__(self, other):
        return (
            isinstance(other, Carry)
            and self.keep == other.keep
            and self.save == other.save
            and self.again == other.again
            and self.more == other.more
        )


class Kind:
    """A kind: a name, names of bases, constants, fields, methods and perhaps a carry."""

    def __init__(self, name, *bases, constants=(), fields=(), methods=(), carry=None):
        for word in (name, *bases):
            if not is_word(word):
                raise BadName(word)
        if not are_constants(constants):
            raise BadKind("constants")
        if not are_fields(fields):
            raise BadKind("fields")
        if not are_methods(methods):
            raise BadKind("methods")
        if carry is not None and not isinstance(carry, Carry):
            raise BadKind("carry")
        self.name = name
        self.bases = bases
        self.constants = constants
        self.fields = fields
        self.methods = methods
        self.carry = carry

    def __eq__(self, other):
        return (
            isinstance(other, Kind)
            and self.name == other.name
            and self.bases == other.bases
            and self.constants == other.constants
            and self.fields == other.fields
            and self.methods == other.methods
            and self.carry == other.carry
        )
