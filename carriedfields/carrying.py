"""What a passage carries: which fields it can carry, and how it makes the new values (points 19 to 21)."""

from carriedfields.executing import Work, does_hold, end_of_rows, held_by
from carriedfields.forms import is_test
from carriedfields.levels import Body, is_body_right, is_test_right
from carriedfields.values import has_number
from carriedfields.words import are_different_words, is_word


def body_of(shape, rows):
    """Rows that work on objects of a shape, without parameters."""
    return Body(rows, dict(shape.fields), shape.constants, shape.library.marks)


def is_pair_of_words(value):
    """Whether any value is a tuple of two words, which may be the same."""
    return isinstance(value, tuple) and len(value) == 2 and is_word(value[0]) and is_word(value[1])


def are_names(names, shape, into):
    """Whether any value is a tuple of pairs that lead from different fields of into to fields of shape."""
    if not isinstance(names, tuple) or not all([is_pair_of_words(pair) for pair in names]):
        return False
    if not are_different_words(tuple([field for field, _ in names])):
        return False
    fields = dict(into.fields)
    sources = dict(shape.fields)
    return all([field in fields and source in sources for field, source in names])


def are_carried(fields, names, shape, into):
    """Whether any value is a tuple of different fields of into that can be carried under these names."""
    if not are_different_words(fields):
        return False
    levels = dict(into.fields)
    old_levels = dict(shape.fields)
    sources = dict(names)
    return all([
        field in levels and old_levels.get(sources.get(field, field)) == levels[field] for field in fields
    ])


def are_rows_of(shape, rows):
    """Whether rows are right as rows of again on new objects of this shape."""
    return is_body_right(body_of(shape, rows))


def is_test_of(shape, value):
    """Whether any value is a test of objects of this shape."""
    if not isinstance(value, tuple) or len(value) != 3 or not is_test(value[0], value[1], value[2], 0):
        return False
    return is_test_right(value[0], value[1], value[2], body_of(shape, ()))


def are_tests(shape, value):
    """Whether any value is a tuple of tests of objects of this shape."""
    return isinstance(value, tuple) and all([is_test_of(shape, test) for test in value])


def do_tests_hold(passage, values):
    """Whether the passage is possible for these values."""
    work = Work(passage.shape, held_by(passage.shape, values), {}, ())
    return all([does_hold(one, sign, other, work) for one, sign, other in passage.when])


def carried_fields(passage):
    """The fields of into that a passage carries, ascending."""
    return tuple(sorted(passage.keep + passage.save))


def copy_index(thing, copied, memo):
    """The index of the copy of a thing; copied has the things of which copies are made, one for each copy."""
    if memo and thing in copied:
        return copied.index(thing)
    copied.append(thing)
    return len(copied) - 1


def carried_entries(passage, values):
    """The entry of each carried field, ascending."""
    held = held_by(passage.shape, values)
    sources = dict(passage.names)
    copied = []
    entries = []
    for field in carried_fields(passage):
        value = held[sources.get(field, field)]
        if field in passage.save and has_number(value):
            value = (value[0], copy_index(value, copied, passage.memo))
        entries.append(value)
    return tuple(entries)


def new_copy(content, taken):
    """The copy with this content and the greatest number below 0 that is none of the things taken."""
    number = -1
    while (content, number) in taken:
        number -= 1
    return (content, number)


def loaded_values(passage, entries):
    """The values of the new object to which the entries of the carried fields lead."""
    into = passage.into
    held = held_by(into, into.firsts)
    carried = list(zip(carried_fields(passage), entries))
    taken = [entry for field, entry in carried if field in passage.keep]
    copies = []
    for field, entry in carried:
        if field in passage.save and has_number(entry):
            content, index = entry
            if index == len(copies):
                copies.append(new_copy(content, taken + copies))
            held[field] = copies[index]
        else:
            held[field] = entry
    end_of_rows(passage.again, Work(into, held, {}, ()))
    return tuple(held.values())
