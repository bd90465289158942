"""Which things of values are alike: canonical values, and what a caller can choose (points 24 and 25)."""

from carriedfields.values import has_number


class Renaming:
    """New contents and numbers for those of some values, given in the order in which these are met."""

    def __init__(self):
        self.contents = {}
        self.numbers = {}

    def new_trace(self, trace):
        """The trace with new contents."""
        if isinstance(trace, int):
            return self.contents.setdefault(trace, len(self.contents))
        if isinstance(trace, tuple):
            return (trace[0], *[self.new_trace(part) for part in trace[1:]])
        return trace

    def new_value(self, value, side=0):
        """The value with new contents and a new number; copies of one side are never those of another one."""
        if not has_number(value):
            return self.new_trace(value)
        content, number = value
        is_own = number >= 0
        alike = self.numbers.setdefault((content, None if is_own else side), {})
        place = alike.setdefault(number, len(alike))
        return (self.new_trace(content), place if is_own else -1 - place)


def canonical(values):
    """The canonical form of values."""
    renaming = Renaming()
    return tuple([renaming.new_value(value) for value in values])


def contents_of(trace):
    """The contents that a trace meets, in order."""
    if isinstance(trace, int):
        return [trace]
    if isinstance(trace, tuple):
        return [content for part in trace[1:] for content in contents_of(part)]
    return []


def met_numbers(values):
    """For each content that values meet, in order, the own numbers that they meet with it, in order."""
    found = {}
    for value in values:
        if not has_number(value):
            for content in contents_of(value):
                found.setdefault(content, [])
        else:
            numbers = found.setdefault(value[0], [])
            if value[1] >= 0 and value[1] not in numbers:
                numbers.append(value[1])
    return found


def choices_for(values, marks, fresh):
    """The choices for a parameter behind these values; fresh callers pass no thing that is met."""
    found = [None, *marks]
    met = met_numbers(values)
    for content, numbers in met.items():
        if not fresh:
            found.extend([(content, number) for number in numbers])
        found.append((content, max(numbers, default=-1) + 1))
    found.append((max(list(met), default=-1) + 1, 0))
    return found


def arguments_for(count, values, marks, fresh):
    """All choices for so many parameters, in order; each is met behind the values before the next one."""
    found = [()]
    for _ in range(count):
        found = [things + (thing,) for things in found for thing in choices_for(values + things, marks, fresh)]
    return found
