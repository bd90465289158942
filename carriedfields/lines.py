"""The line of a kind, and what the kinds of a line have together (points 11 and 12)."""


def first_free(lists):
    """The name that the first list can give, or None if none can give one."""
    for names in lists:
        if not any([names[0] in other[1:] for other in lists]):
            return names[0]
    return None


def line_names(kind, named):
    """The names of the line of a kind, or None; the bases stand in named, and each has a line."""
    lists = [line_names(named[base], named) for base in kind.bases]
    lists.append(kind.bases)
    line = [kind.name]
    lists = [names for names in lists if names]
    while lists:
        name = first_free(lists)
        if name is None:
            return None
        line.append(name)
        rest = [[other for other in names if other != name] for names in lists]
        lists = [names for names in rest if names]
    return line


def line_of(kind, kinds):
    """The kinds of the line of a kind, a tuple, or None; its bases are among these kinds."""
    named = {other.name: other for other in kinds}
    names = line_names(kind, named)
    if names is None:
        return None
    return (kind, *[named[name] for name in names[1:]])


def constants_of(line):
    """For each constant of a line its value, as the first kind that has it gives it."""
    found = {}
    for kind in line:
        for name, value in kind.constants:
            found.setdefault(name, value)
    return found


def levels_of(line):
    """For each field of a line its level."""
    return {name: level for kind in line for name, level, _ in kind.fields}


def firsts_of(line):
    """For each field of a line its first value in an object of the first kind of the line."""
    constants = constants_of(line)
    found = {}
    for kind in line:
        for name, _, first in kind.fields:
            value = constants[first[1]] if isinstance(first, tuple) else first
            found.setdefault(name, value)
    return found


def methods_of(line):
    """For each name of a method of a line its first version."""
    found = {}
    for kind in line:
        for method in kind.methods:
            found.setdefault(method.name, method)
    return found


def versions_of(line):
    """For each name of a method of a line its versions, the first one first."""
    found = {}
    for kind in line:
        for method in kind.methods:
            found[method.name] = found.get(method.name, ()) + (method,)
    return found
