"""Libraries as texts (15): how each part is written, and that reading it again gives an equal library."""

import unittest

from carriedfields.kinds import Carry, Kind, Method
from carriedfields.libraries import Library
from carriedfields.texts import library_text, read_library
from samples import SHEET_TEXT, Case, nested_if, nested_maker, sheet_library

# Rows of all forms, each with its lines; a method with the parameters x and y may have them.
ROWS = [
    (("set", "item", None), ["self.item = none"]),
    (("set", "item", "x"), ["self.item = x"]),
    (("set", "item", "red"), ["self.item = red"]),
    (("set", "item", ("self", "item")), ["self.item = self.item"]),
    (("set", "item", ("cls", "FIRST")), ["self.item = cls.FIRST"]),
    (("set", "one", ("page", "x")), ["self.one = page(x)"]),
    (("set", "three", ("page", None, ("leaf", "x", ("self", "one")))), ["self.three = page(none, leaf(x, self.one))"]),
    (("set", "three", nested_maker(3, ("cls", "FIRST"))), ["self.three = page(page(page(cls.FIRST)))"]),
    (("let", "w", "x"), ["w = x"]),
    (("let", "x", None), ["x = none"]),
    (("let", "superb", "x"), ["superb = x"]),
    (("return", None), ["return none"]),
    (("return", "w"), ["return w"]),
    (("refuse", ("self", "item")), ["refuse self.item"]),
    (("refuse", "red"), ["refuse red"]),
    (("super", None, "x", "y"), ["super(x, y)"]),
    (("super", "w", None, ("cls", "FIRST")), ["w = super(none, cls.FIRST)"]),
    (("if", "x", "is", "y", (), ()), ["if x is y:"]),
    (("if", "x", "is not", None, (), ()), ["if x is not none:"]),
    (("if", ("self", "item"), "==", ("cls", "FIRST"), (("let", "w", "x"),), ()), [
        "if self.item == cls.FIRST:", "    w = x",
    ]),
    (("if", "red", "!=", "x", (), (("let", "w", "x"), ("return", "y"))), [
        "if red != x:", "else:", "    w = x", "    return y",
    ]),
    (("if", ("page", "x"), "is", None, (("let", "w", "x"), ("return", None)), (("let", "w", "y"),)), [
        "if page(x) is none:", "    w = x", "    return none", "else:", "    w = y",
    ]),
    (("if", "x", "is", "y", (("if", "x", "is", "y", (), (("return", "x"),)),), (("return", "y"),)), [
        "if x is y:", "    if x is y:", "    else:", "        return x", "else:", "    return y",
    ]),
    (nested_if(4, (("return", "x"),)), [
        "if none is none:", "    if none is none:", "        if none is none:", "            if none is none:",
        "                return x",
    ]),
]
FIELDS = (("item", 0, None), ("one", 1, None), ("two", 2, None), ("three", 3, None))
FIRST = (("FIRST", "red"),)


def lines_of(*lines):
    return "\n".join(lines)


def everything():
    """A library with everything at once."""
    inner = ("if", "x", "!=", None, (("set", "item", "x"),), (("return", "x"), ("let", "w", "y")))
    put = Method("put", "x", "y", rows=(inner, ("super", "w", "w", "x"), ("return", "w")))
    again = (("let", "w", None), nested_if(4, (("set", "item", "w"),)), ("set", "two", None))
    base = Kind(
        "base", constants=(("FIRST", "red"), ("B", None)), fields=(("two", 2, None), ("item", 0, ("cls", "FIRST"))),
        methods=(put, Method("open", role="enter"), Method("shut", "x", role="leave", rows=(("refuse", "x"),))),
        carry=Carry(keep=("two",), save=("item",), again=again),
    )
    show = Method("show", rows=(("super", None), ("return", ("page", ("self", "one")))), level=3)
    deep = Method("deep", "x", level=1, role="enter", rows=(nested_if(3), ("return", ("page", "x", None))))
    other = Kind("other", fields=(("one", 1, None),), methods=(show, deep), carry=Carry(more=False))
    heir = Kind(
        "heir", "base", "other", constants=(("B", "blue"),), fields=(("own", 0, "blue"), ("item", 0, "red")),
        methods=(put,), carry=Carry(keep=("own", "item"), more=False),
    )
    last = Kind("last", "heir", methods=(Method("deep", "y", level=1, role="enter", rows=(("super", None, "y"),)),))
    return Library(base, other, heir, last, marks=("red", "blue"))


EVERYTHING = """marks red blue
class base:
    FIRST = red
    B = none
    two: 2
    item = cls.FIRST
    def put(x, y):
        if x != none:
            self.item = x
        else:
            return x
            w = y
        w = super(w, x)
        return w
    enter open():
    leave shut(x):
        refuse x
    carry:
        keep two
        save item
        w = none
        if none is none:
            if none is none:
                if none is none:
                    if none is none:
                        self.item = w
        self.two = none
class other:
    one: 1
    def show() -> 3:
        super()
        return page(self.one)
    enter deep(x) -> 1:
        if none is none:
            if none is none:
                if none is none:
        return page(x, none)
    carry alone:
class heir(base, other):
    B = blue
    own = blue
    item = red
    def put(x, y):
        if x != none:
            self.item = x
        else:
            return x
            w = y
        w = super(w, x)
        return w
    carry alone:
        keep own item
class last(heir):
    enter deep(y) -> 1:
        super(y)"""


class WrittenCase(Case):
    def check_written(self, library, text):
        """The library is written so, and reading gives it back."""
        self.assertEqual(text, library_text(library))
        again = read_library(text)
        self.check_equal(library, again)
        self.assertEqual(text, library_text(again))
        for one, other in zip(library.kinds, again.kinds):
            for name in ("name", "bases", "constants", "fields"):
                self.assertEqual(repr(getattr(one, name)), repr(getattr(other, name)))
            for method, twin in zip(one.methods, other.methods):
                self.assertEqual(repr(vars(method)), repr(vars(twin)))
            if one.carry is not None:
                self.assertEqual(repr(vars(one.carry)), repr(vars(other.carry)))


class WrittenTest(WrittenCase):
    def test_example(self):
        self.check_written(sheet_library(), SHEET_TEXT)

    def test_everything(self):
        self.check_written(everything(), EVERYTHING)

    def test_marks(self):
        for marks in ((), ("red",), ("red", "blue"), ("d", "c", "b", "abcdefgh")):
            self.check_written(Library(Kind("a"), marks=marks), " ".join(("marks",) + marks) + "\nclass a:")

    def test_classes_and_bases(self):
        kinds = (Kind("a"), Kind("b"), Kind("c", "b"), Kind("d", "c", "a"))
        self.check_written(Library(*kinds), "marks\nclass a:\nclass b:\nclass c(b):\nclass d(c, a):")
        kinds = (Kind("a"), Kind("b"), Kind("c"), Kind("d", "c", "a", "b"))
        self.check_written(Library(*kinds), "marks\nclass a:\nclass b:\nclass c:\nclass d(c, a, b):")

    def test_constants_and_fields(self):
        kind = Kind(
            "abcdefgh", constants=(("ZEBRA", "red"), ("A", None), ("ABCDEFGH", "blue")),
            fields=(("z", 3, None), ("b", 0, ("cls", "ZEBRA")), ("a", 0, None), ("d", 1, None), ("c", 0, "blue")),
        )
        self.check_written(Library(kind, marks=("blue", "red")), lines_of(
            "marks blue red", "class abcdefgh:", "    ZEBRA = red", "    A = none", "    ABCDEFGH = blue", "    z: 3",
            "    b = cls.ZEBRA", "    a = none", "    d: 1", "    c = blue",
        ))

    def test_methods(self):
        heads = {
            "def a():": Method("a"), "def a(x):": Method("a", "x"), "def a(x, y):": Method("a", "x", "y"),
            "def a(a):": Method("a", "a"), "def a() -> 1:": Method("a", level=1),
            "def a(x, y) -> 3:": Method("a", "x", "y", level=3), "enter a():": Method("a", role="enter"),
            "leave a(x):": Method("a", "x", role="leave"), "enter a(x) -> 2:": Method("a", "x", level=2, role="enter"),
            "leave a() -> 1:": Method("a", level=1, role="leave"),
        }
        for head, method in heads.items():
            self.check_written(Library(Kind("k", methods=(method,))), f"marks\nclass k:\n    {head}")

    def test_order_of_methods(self):
        kind = Kind("k", methods=(Method("b"), Method("a", rows=(("return", None),)), Method("c")))
        self.check_written(Library(kind), lines_of(
            "marks", "class k:", "    def b():", "    def a():", "        return none", "    def c():",
        ))

    def test_rows(self):
        for row, lines in ROWS:
            # The word w needs a row that gives it.
            rows = (row, ("let", "w", "x"))
            level = 0 if row[0] == "super" and row[1] else 3
            kind = Kind("k", constants=FIRST, fields=FIELDS, methods=(Method("m", "x", "y", rows=rows, level=level),))
            head = "    def m(x, y):" if level == 0 else "    def m(x, y) -> 3:"
            top = lines_of("marks red", "class k:", "    FIRST = red", "    item = none", "    one: 1", "    two: 2",
                           "    three: 3", head)
            inner = lines_of(*["        " + line for line in lines], "        w = x")
            self.check_written(Library(kind, marks=("red",)), f"{top}\n{inner}")

    def test_super_without_expressions(self):
        for row, line in ((("super", None), "super()"), (("super", "w"), "w = super()")):
            kind = Kind("k", methods=(Method("m", rows=(row,)),))
            self.check_written(Library(kind), f"marks\nclass k:\n    def m():\n        {line}")
            kind = Kind("k", methods=(Method("m", "x", rows=(row + ("x",),)),))
            line = line.replace("()", "(x)")
            self.check_written(Library(kind), f"marks\nclass k:\n    def m(x):\n        {line}")

    def test_sixteen_rows_and_a_fifth_if(self):
        rows = (("return", None),) * 11 + (nested_if(5),)
        lines = ["        return none"] * 11 + ["    " * depth + "if none is none:" for depth in range(2, 7)]
        self.check_written(
            Library(Kind("k", methods=(Method("m", rows=rows),))),
            lines_of("marks", "class k:", "    def m():", *lines),
        )

    def test_carries(self):
        carries = [
            (Carry(), ["carry:"]),
            (Carry(more=False), ["carry alone:"]),
            (Carry(keep=("b",)), ["carry:", "    keep b"]),
            (Carry(save=("b", "a")), ["carry:", "    save b a"]),
            (Carry(keep=("c", "a"), save=("d", "b"), more=False), ["carry alone:", "    keep c a", "    save d b"]),
            (Carry(again=(("let", "w", "red"), ("set", "a", "w"))), ["carry:", "    w = red", "    self.a = w"]),
            (Carry(save=("a",), again=(("if", ("self", "a"), "is", None, (), (("set", "a", None),)),)), [
                "carry:", "    save a", "    if self.a is none:", "    else:", "        self.a = none",
            ]),
            (Carry(keep=("a",), again=(("set", "b", None),) * 16),
             ["carry:", "    keep a"] + ["    self.b = none"] * 16),
        ]
        fields = tuple((name, 0, None) for name in "abcd")
        for carry, lines in carries:
            top = ["marks red", "class k:"] + [f"    {name} = none" for name in "abcd"]
            text = lines_of(*top, *["    " + line for line in lines])
            self.check_written(Library(Kind("k", fields=fields, carry=carry), marks=("red",)), text)

    def test_words_that_begin_like_others(self):
        names = ("defs", "carryx", "keeps", "saver", "ifs", "elsey", "returns", "refuser", "superx", "nones", "selfs")
        for name in names:
            rows = (("let", name, "x"), ("set", name, name), ("if", name, "is", name, (), ()), ("return", name))
            kind = Kind(name, fields=((name, 0, None),), methods=(Method(name, "x", rows=rows),),
                        carry=Carry(keep=(name,)))
            self.check_written(Library(kind), lines_of(
                "marks", f"class {name}:", f"    {name} = none", f"    def {name}(x):", f"        {name} = x",
                f"        self.{name} = {name}", f"        if {name} is {name}:", f"        return {name}",
                "    carry:", f"        keep {name}",
            ))

    def test_each_word_of_a_sign_as_a_word(self):
        # The words begin as the sign does.
        rows = (("if", "nota", "is", "nota", (), ()), ("if", "nota", "is not", "nota", (), ()))
        kind = Kind("k", methods=(Method("m", "nota", rows=rows),))
        self.check_written(Library(kind), lines_of(
            "marks", "class k:", "    def m(nota):", "        if nota is nota:", "        if nota is not nota:",
        ))

    def test_nothing_is_changed_and_results_are_strings(self):
        library = sheet_library()
        self.assertIs(str, library_text(library).__class__)
        self.assertEqual(library_text(library=library), library_text(library))
        self.check_equal(library, sheet_library())
        self.check_equal(library, read_library(text=SHEET_TEXT))

    def test_an_else_without_rows(self):
        text = "marks\nclass k:\n    def m():\n        if none is none:\n            return none\n        else:"
        library = read_library(text)
        rows = (("if", None, "is", None, (("return", None),), ()),)
        self.check_equal(Library(Kind("k", methods=(Method("m", rows=rows),))), library)
        self.assertEqual(text.replace("\n        else:", ""), library_text(library))
        text = "marks\nclass k:\n    def m():\n        if none is none:\n        else:\n        return none"
        rows = (("if", None, "is", None, (), ()), ("return", None))
        self.check_equal(Library(Kind("k", methods=(Method("m", rows=rows),))), read_library(text))


if __name__ == "__main__":
    unittest.main()
