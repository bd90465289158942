"""Libraries and shapes (11): numbers of kinds and marks, len, in, [ ], and equality."""

import unittest

from carriedfields.errors import BadLibrary, NoKind
from carriedfields.kinds import Carry, Kind, Method
from carriedfields.libraries import Library, Shape
from samples import ODD, ODD_WORDS, RESERVED, Case

KINDS = (Kind("a"), Kind("b", "a"), Kind("c"), Kind("d"), Kind("e"))


def make_sheet():
    """The library of the document's example for texts."""
    rest = Method("rest", "x", rows=(("set", "style", "x"),))
    put = Method("put", "x", rows=(("set", "item", "x"), ("set", "shown", None)))
    made = ("set", "shown", ("page", ("self", "item"), ("self", "style")))
    rows = (("if", ("self", "shown"), "is", None, (made,), ()), ("return", ("self", "shown")))
    show = Method("show", rows=rows, level=1)
    fields = (("item", 0, None), ("style", 0, ("cls", "FIRST")), ("shown", 1, None))
    carry = Carry(save=("item", "style"))
    sheet = Kind("sheet", constants=(("FIRST", "draft"),), fields=fields, methods=(put, rest, show), carry=carry)
    return Library(sheet, marks=("draft", "done"))


class LibraryTest(Case):
    def test_what_was_passed(self):
        library = Library(*KINDS[:4], marks=("red", "blue"))
        self.assertEqual(KINDS[:4], library.kinds)
        self.assertIs(tuple, library.kinds.__class__)
        self.assertEqual(("red", "blue"), library.marks)
        self.assertEqual((), Library(KINDS[0]).marks)

    def test_numbers_of_kinds(self):
        wrong = {"at": -1, "part": "kinds"}
        self.check_raises(BadLibrary, wrong, Library)
        self.check_raises(BadLibrary, wrong, Library, marks=("red",))
        self.check_raises(BadLibrary, wrong, Library, *KINDS)
        self.check_raises(BadLibrary, wrong, Library, *KINDS, *KINDS)
        for many in (1, 2, 3, 4):
            self.assertEqual(many, len(Library(*KINDS[:many])))

    def test_too_many_kinds_come_ahead_of_all_else(self):
        wrong = {"at": -1, "part": "kinds"}
        self.check_raises(BadLibrary, wrong, Library, marks=None)
        self.check_raises(BadLibrary, wrong, Library, *[Kind("a", "a")] * 5, marks=["red"])

    def test_numbers_of_marks(self):
        marks = ("red", "blue", "green", "gray", "black")
        for many in range(5):
            self.assertEqual(marks[:many], Library(Kind("a"), marks=marks[:many]).marks)
        self.check_raises(BadLibrary, {"at": -1, "part": "marks"}, Library, Kind("a"), marks=marks)

    def test_wrong_marks(self):
        wrongs = [
            None, "red", ["red"], [], {}, ("red", "red"), ("red", "blue", "red"), ("RED",), ("red", None), (("red",),),
            ("red", True), ("ninechars",), ("",), ("red", "blue", "green", "gray", "red"), ("a", "b", "c", "d", "E"),
        ]
        for marks in wrongs + [(word,) for word in RESERVED] + [odd for odd in ODD if odd != ()]:
            self.check_raises(BadLibrary, {"at": -1, "part": "marks"}, Library, Kind("a"), marks=marks)

    def test_wrong_marks_come_ahead_of_faults(self):
        self.check_raises(BadLibrary, {"at": -1, "part": "marks"}, Library, Kind("a", "a"), marks=("red", "red"))

    def test_len(self):
        self.assertEqual([1, 2, 3, 4], [len(Library(*KINDS[:many])) for many in (1, 2, 3, 4)])

    def test_in(self):
        library = Library(*KINDS[:3], marks=("red",))
        for name in ("a", "b", "c"):
            self.assertIs(True, name in library)
        for name in ("d", "red", "ab", "A", "", 0, 1, KINDS[0], library, library["a"]) + ODD_WORDS:
            if name != "a":
                self.assertIs(False, name in library, name)

    def test_index(self):
        library = Library(*KINDS[:3])
        for name in ("a", "b", "c"):
            self.assertIs(Shape, library[name].__class__)
            self.assertEqual(name, library[name].name)
            self.assertIs(library, library[name].library)
        others = ("d", "ab", "A", "", 0, 1, -1, True, KINDS[0], library, library["a"], ("a", "b"), ["a"])
        for name in others + ODD_WORDS:
            with self.assertRaises(NoKind) as caught:
                library[name]
            self.assertIs(name, caught.exception.name)
            self.assertEqual(["name"], list(vars(caught.exception)))

    def test_not_iterated_over(self):
        with self.assertRaises(TypeError):
            list(Library(KINDS[0]))

    def test_the_sheet_of_the_document(self):
        shape = make_sheet()["sheet"]
        self.assertEqual((("item", 0), ("shown", 1), ("style", 0)), shape.fields)
        self.assertEqual((None, None, "draft"), shape.firsts)
        methods = (("put", 1, 0, None), ("rest", 1, 0, None), ("show", 0, 1, None))
        self.assertEqual((methods, ("done", "draft")), shape.face)


class EqualityTest(Case):
    def test_libraries_that_were_made_anew(self):
        self.check_equal(make_sheet(), make_sheet())
        self.check_equal(Library(*KINDS[:4]), Library(*KINDS[:4], marks=()))
        self.check_equal(Library(Kind("a"), Kind("b", "a")), Library(*KINDS[:2]))

    def test_other_libraries(self):
        self.check_all_different([
            Library(Kind("a")), Library(Kind("b")), Library(Kind("a"), Kind("b")), Library(Kind("b"), Kind("a")),
            Library(Kind("a"), Kind("b", "a")), Library(Kind("a"), marks=("red",)), Library(Kind("a"), marks=("blue",)),
            Library(Kind("a"), marks=("red", "blue")), Library(Kind("a"), marks=("blue", "red")),
            Library(Kind("a", methods=(Method("m"),))), Library(Kind("a", methods=(Method("m", level=1),))),
            Library(Kind("a", fields=(("f", 0, None),))), Library(Kind("a", carry=Carry())), make_sheet(),
        ])

    def test_shapes_that_were_made_anew(self):
        self.check_equal(make_sheet()["sheet"], make_sheet()["sheet"])
        library = Library(*KINDS[:2])
        self.check_equal(library["a"], library["a"])

    def test_other_shapes(self):
        # The shapes have the same fields and faces, and some the same names.
        first, second, third = Library(Kind("a"), Kind("b")), Library(Kind("b"), Kind("a")), Library(Kind("a"))
        self.check_all_different([
            first["a"], first["b"], second["a"], second["b"], third["a"], Library(Kind("a"), marks=("red",))["a"],
        ])

    def test_other_classes(self):
        library = make_sheet()
        self.check_foreign(library)
        self.check_foreign(library["sheet"])
        self.check_unequal(library, library["sheet"])
        self.check_unequal(library, library.kinds)
        self.check_unequal(library["sheet"], "sheet")


if __name__ == "__main__":
    unittest.main()
