"""Passages, routes and saved states (points 19 to 22)."""

from carriedfields.carrying import (
    are_carried, are_names, are_rows_of, are_tests, carried_entries, carried_fields, do_tests_hold,
    loaded_values,
)
from carriedfields.entries import entry_text, read_entry
from carriedfields.errors import BadPassage, BadSaved, BadState, NoField, NotNow
from carriedfields.forms import CARRY_HEADS, check_rows
from carriedfields.scanning import NoForm
from carriedfields.values import is_values


def visited_carries(shape):
    """The carries of a line that its passage visits."""
    visited = []
    for carry in shape.carries:
        visited.append(carry)
        if not carry.more:
            break
    return visited


def ways_of_carries(carries):
    """For each field that these carries name whether it is kept or saved."""
    ways = {}
    for carry in carries:
        for field in carry.keep:
            ways.setdefault(field, "keep")
        for field in carry.save:
            ways.setdefault(field, "save")
    return ways


def joined(one, other):
    """The route of the legs of one and then those of other, each a passage or a route."""
    if one.into != other.shape:
        raise BadPassage("legs")
    return Route(legs_of(one) + legs_of(other))


def legs_of(route):
    """The legs of a passage or a route."""
    return route.legs if isinstance(route, Route) else (route,)


class Passage:
    """How a new object is made of an old one."""

    def __init__(self, shape, *, keep=(), save=(), again=(), memo=True, when=(), into=None, names=()):
        goal = shape if into is None else into
        if goal.face != shape.face:
            raise BadPassage("into")
        if not are_names(names, shape, goal):
            raise BadPassage("names")
        if not are_carried(keep, names, shape, goal):
            raise BadPassage("keep")
        if not are_carried(save, names, shape, goal) or any([field in keep for field in save]):
            raise BadPassage("save")
        if not all([field in keep + save for field, _ in names]):
            raise BadPassage("save")
        check_rows(again, CARRY_HEADS)
        if not are_rows_of(goal, again):
            raise BadPassage("again")
        if not isinstance(memo, bool):
            raise BadPassage("memo")
        if not are_tests(shape, when):
            raise BadPassage("when")
        self.shape = shape
        self.into = goal
        self.keep = tuple(sorted(keep))
        self.save = tuple(sorted(save))
        self.names = tuple(sorted(names))
        self.again = again
        self.memo = memo
        self.when = when

    @classmethod
    def of(cls, shape, *, memo=True, when=()):
        """The passage of a kind by its classes' own carries."""
        carries = visited_carries(shape)
        ways = ways_of_carries(carries) if carries else {field: "keep" for field, _ in shape.fields}
        keep = tuple([field for field in ways if ways[field] == "keep"])
        save = tuple([field for field in ways if ways[field] == "save"])
        passage = cls(shape, keep=keep, save=save, memo=memo, when=when)
        # The rows of several carries may be more than the passage would take as rows of its own.
        passage.again = tuple([row for carry in reversed(list(carries)) for row in carry.again])
        return passage

    def __eq__(self, other):
        return (
            isinstance(other, Passage)
            and self.shape == other.shape
            and self.into == other.into
            and self.keep == other.keep
            and self.save == other.save
            and self.names == other.names
            and self.again == other.again
            and self.memo == other.memo
            and self.when == other.when
        )

    def __len__(self):
        return 1

    def __rshift__(self, other):
        return joined(self, other)

    def __call__(self, values):
        return loaded_values(self, self.saved(values).entries)

    def saved(self, values):
        """What the passage carries of an object with these values."""
        if not is_values(self.shape, values):
            raise BadState(values)
        if not do_tests_hold(self, values):
            raise NotNow("pass")
        return Saved(self, carried_entries(self, values))

    def loaded(self, saved):
        """The values of the new object that is made from a saved state."""
        if saved.passage != self:
            raise BadSaved(-1)
        return loaded_values(self, saved.entries)


class Route:
    """Passages one behind another; made by >>."""

    def __init__(self, legs):
        self.legs = legs
        self.shape = legs[0].shape
        self.into = legs[-1].into

    def __eq__(self, other):
        return isinstance(other, Route) and self.legs == other.legs

    def __len__(self):
        return len(self.legs)

    def __rshift__(self, other):
        return joined(self, other)

    def __call__(self, values):
        for leg in self.legs:
            values = leg(values)
        return values


class Saved:
    """What a passage carries of one object: an entry for each carried field."""

    def __init__(self, passage, entries):
        self.passage = passage
        self.fields = carried_fields(passage)
        self.entries = entries

    @classmethod
    def read(cls, passage, text):
        """The saved state that is written in a text."""
        if not isinstance(text, str):
            raise BadSaved(-1)
        parts = text.split("; ") if text else []
        fields = carried_fields(passage)
        entries = []
        contents = []
        for at, (field, part) in enumerate(zip(fields, parts)):
            try:
                entries.append(read_entry(part, field, passage, contents))
            except NoForm:
                raise BadSaved(at) from None
        if len(parts) != len(fields):
            raise BadSaved(len(entries))
        return cls(passage, tuple(entries))

    def __len__(self):
        return len(self.fields)

    def __contains__(self, field):
        return field in self.fields

    def __getitem__(self, field):
        if field not in self.fields:
            raise NoField(field)
        return self.entries[self.fields.index(field)]

    def __iter__(self):
        raise TypeError("a saved state is not iterated over: take its fields")

    def __eq__(self, other):
        return isinstance(other, Saved) and self.passage == other.passage and self.entries == other.entries

    def __str__(self):
        save = self.passage.save
        told = list(zip(self.fields, self.entries))
        return "; ".join([entry_text(field, entry, field in save) for field, entry in told])
