"""Values and checks that several test files use."""

import unittest

from carriedfields.errors import BadName, CarriedError
from carriedfields.kinds import Carry, Kind, Method
from carriedfields.libraries import Library
from carriedfields.texts import read_library

RESERVED = (
    "alone carry class cls def else enter if is keep leave made marks none not refuse return save"
    " self super thing"
).split()


def nested(depth, heart=None, wrap=tuple):
    """A value that is nested so deep."""
    value = heart
    for _ in range(depth):
        value = wrap([value])
    return value


def nested_maker(depth, heart="x", word="page"):
    """Makers that stand so deep in one another."""
    value = heart
    for _ in range(depth):
        value = (word, value)
    return value


def nested_if(depth, rows=()):
    """A row of ifs that stand within one another; the given rows stand within all of them."""
    for _ in range(depth):
        rows = (("if", None, "is", None, rows, ()),)
    return rows[0]


LIBRARY = Library(Kind("box", fields=(("item", 0, None),)), marks=("draft",))

# The example of point 15.
SHEET_TEXT = """marks draft done
class sheet:
    FIRST = draft
    item = none
    style = cls.FIRST
    shown: 1
    def put(x):
        self.item = x
        self.shown = none
    def rest(x):
        self.style = x
    def show() -> 1:
        if self.shown is none:
            self.shown = page(self.item, self.style)
        return self.shown
    carry:
        save item style"""


def sheet_library():
    """The library of the example of point 15."""
    put = Method("put", "x", rows=(("set", "item", "x"), ("set", "shown", None)))
    rest = Method("rest", "x", rows=(("set", "style", "x"),))
    made = ("set", "shown", ("page", ("self", "item"), ("self", "style")))
    rows = (("if", ("self", "shown"), "is", None, (made,), ()), ("return", ("self", "shown")))
    kind = Kind(
        "sheet", constants=(("FIRST", "draft"),),
        fields=(("item", 0, None), ("style", 0, ("cls", "FIRST")), ("shown", 1, None)),
        methods=(put, rest, Method("show", rows=rows, level=1)), carry=Carry(save=("item", "style")),
    )
    return Library(kind, marks=("draft", "done"))


def shape_in(*lines, marks="red blue", name="k"):
    """The shape of the class k whose parts are written in these lines, or of another class in them."""
    indented = [f"    {line}" if not line.startswith("class ") else line for line in lines]
    return read_library("\n".join([f"marks {marks}".strip(), "class k:", *indented]))[name]


def shape_of(*methods, fields=(), marks=(), constants=(), carry=None):
    """The shape of a kind that stands alone."""
    kind = Kind("k", constants=constants, fields=fields, methods=methods, carry=carry)
    return Library(kind, marks=marks)["k"]


def plain_fields(names, first=None):
    """Fields of level 0."""
    return tuple((name, 0, first) for name in names)

# Values that are no words, no constants, no tuples of words, no rows and no expressions but None.
ODD = (
    True, False, 0, 1, -1, 3, 10 ** 99, "", " ", "A1", "Ab", "aB", "a1", "a_b", "a b", "a\n", "\na", "ab\x00",
    "\xe9", "\xdf", "\u0430", "\uff41", "\u00aa", "none", "self", "cls", "ninechars", "a" * 50000, [], ["a"],
    [("set", "a", None)], (None,), (1,), (True,), ((),), ("self",), ("cls", "low"), ("self", "UP"), ("page", 1),
    (("a", "b"),), nested(20), nested(20, "a"), nested(20, "a", list), tuple(range(3000)), (0, 0), (3, -1),
    ["a"] * 3000, Method("put"), Carry(), Kind("box"), LIBRARY, LIBRARY["box"], BadName("x"),
)
ODD_WORDS = (None, (), ("a",), ("a", "b"), "UP", "A") + ODD


class Case(unittest.TestCase):
    """Test cases that look closely at errors."""

    def check_raises(self, wanted, told, call, /, *args, **named):
        """The call raises just this class of error with just these fields."""
        try:
            call(*args, **named)
        except CarriedError as error:
            self.assertIs(wanted, error.__class__, (args, named))
            self.assertEqual(repr(told), repr(vars(error)))
        else:
            self.fail(f"nothing was raised of {args!r} {named!r}")

    def check_equal(self, one, other):
        """Two objects are equal from both sides, and no side says that they differ."""
        self.assertIs(one == other, True)
        self.assertIs(other == one, True)
        self.assertIs(one != other, False)
        self.assertIs(other != one, False)

    def check_unequal(self, one, other):
        """Two objects are not equal from either side."""
        self.assertIs(one == other, False)
        self.assertIs(other == one, False)
        self.assertIs(one != other, True)
        self.assertIs(other != one, True)

    def check_all_different(self, things):
        """Each of the things is equal to itself alone."""
        for at, one in enumerate(things):
            for where, other in enumerate(things):
                if at == where:
                    self.check_equal(one, other)
                else:
                    self.check_unequal(one, other)

    def check_foreign(self, thing):
        """The thing is equal to nothing of another class."""
        strangers = [None, True, False, 0, 1, "", "box", (), ("box",), [], {}, object()]
        strangers += [Method("put"), Carry(), Kind("box"), LIBRARY, LIBRARY["box"], BadName("x"), CarriedError()]
        for stranger in strangers:
            if stranger.__class__ is not thing.__class__:
                self.check_unequal(thing, stranger)
