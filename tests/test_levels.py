"""Which rows are right in a library (8, 13): what they use, levels, and numbers of expressions."""

import itertools
import unittest

from carriedfields.errors import BadLibrary
from carriedfields.kinds import Carry, Kind, Method
from carriedfields.libraries import Library
from samples import Case, nested_if, nested_maker

FIELDS = (("zero", 0, None), ("one", 1, None), ("two", 2, None), ("three", 3, None))
ONE, TWO, THREE = ("self", "one"), ("self", "two"), ("self", "three")

# Expressions by their levels; the last ones have levels above 3.
LEVELS = {
    0: [None, "x", "y", "red", "w", "v", ("self", "zero"), ("cls", "A")],
    1: [
        ONE, ("page", None), ("page", "red"), ("page", "x", ("self", "zero")), ("page", ("cls", "A"), "w"),
        ("red", "y"),
    ],
    2: [TWO, ("page", ONE), ("page", None, ONE), ("page", ONE, "x"), ("page", ONE, ONE), nested_maker(2)],
    3: [
        THREE, ("page", TWO), ("page", TWO, "x"), ("page", ONE, TWO), ("page", TWO, ONE), nested_maker(3),
        ("page", ("page", ONE)), ("page", "x", ("page", ONE, "x")), nested_maker(2, ONE),
    ],
    4: [
        ("page", THREE), ("page", "x", THREE), ("page", THREE, "x"), ("page", THREE, THREE), nested_maker(2, TWO),
        nested_maker(3, ONE), ("page", ("page", "x", TWO), ONE),
    ],
    5: [nested_maker(2, THREE), nested_maker(3, TWO)],
    6: [nested_maker(3, THREE), ("page", "x", nested_maker(2, THREE))],
}
GONE = [
    "gone", "a", "page", "zero", "reds", ("self", "gone"), ("self", "x"), ("self", "a"), ("cls", "GONE"), ("cls", "B"),
    ("page", "gone"), ("page", "x", "gone"), ("page", "gone", "x"), ("page", ("self", "gone")),
    ("page", ("cls", "GONE")),
    nested_maker(3, "gone"), nested_maker(3, ("self", "gone")), ("page", "x", ("page", "x", ("cls", "B"))),
]
# They give the words w and v, so that these may be used.
GIVERS = (("let", "w", None), ("super", "v", "x", "y"))
SIGNS = ("is", "is not", "==", "!=")


class RowsCase(Case):
    def make(self, rows, level=0, params=("x", "y"), givers=GIVERS):
        """Makes a library whose kind c has a method with these rows behind two others."""
        method = Method("m", *params, rows=rows + (givers if level == 0 else GIVERS[:1]), level=level)
        stranger = Method("o", rows=(("let", "gone", None),))
        other = Kind("b", constants=(("B", None),), fields=(("other", 0, None),), methods=(stranger,))
        kind = Kind("c", "a", fields=FIELDS[2:], methods=(Method("k"), Method("l", "gone"), method))
        return Library(Kind("a", constants=(("A", "red"),), fields=FIELDS[:2]), other, kind, marks=("red", "blue"))

    def check_row(self, is_right, row, **named):
        """The row is right, or not, at each place where a row can stand."""
        for rows in (
            (row,), (("set", "zero", None), row), (nested_if(1, (row,)),), (nested_if(4, (("set", "zero", "x"), row)),),
            (("if", "x", "==", "y", (), (("if", "x", "==", "y", (), (row,)),)),), (("return", None), row),
        ):
            if is_right:
                self.assertEqual(3, len(self.make(rows, **named)))
            else:
                self.check_raises(BadLibrary, {"at": 2, "part": "rows"}, self.make, rows, **named)

    def expressions(self, level):
        """The expressions with their levels that a method of a level may use: v is given by a super with a word."""
        return [(there, each) for there, some in LEVELS.items() for each in some if level == 0 or each != "v"]


class LevelsTest(RowsCase):
    def test_set(self):
        for level, expression in self.expressions(0):
            for most, field in enumerate(("zero", "one", "two", "three")):
                is_right = level == 0 if most == 0 else expression is None or 1 <= level <= most
                self.check_row(is_right, ("set", field, expression))

    def test_let(self):
        for level, expression in self.expressions(0):
            self.check_row(level == 0, ("let", "w", expression))
            self.check_row(level == 0, ("let", "x", expression))

    def test_return(self):
        for most in range(4):
            for level, expression in self.expressions(most):
                self.check_row(level <= most, ("return", expression), level=most)

    def test_refuse(self):
        for most in range(4):
            for level, expression in self.expressions(most):
                self.check_row(level == 0, ("refuse", expression), level=most)

    def test_super(self):
        for level, expression in self.expressions(0):
            for word in (None, "w", "v", "x"):
                self.check_row(level == 0, ("super", word, expression, "x"))
                self.check_row(level == 0, ("super", word, "x", expression))

    def test_numbers_of_expressions_of_super(self):
        for many, params in enumerate(((), ("p",), ("p", "q"))):
            for count in range(5):
                row = ("super", None, *[None] * count)
                named = {"params": params, "givers": ()}
                rows = (row,)
                if count == many:
                    self.assertEqual(3, len(self.make(rows, **named)))
                else:
                    self.check_raises(BadLibrary, {"at": 2, "part": "rows"}, self.make, rows, **named)

    def test_super_in_a_method_with_a_level(self):
        for level in range(4):
            self.check_row(True, ("super", None, "x", "y"), level=level)
            self.check_row(level == 0, ("super", "w", "x", "y"), level=level)
            self.check_row(level == 0, ("super", "x", "x", "y"), level=level)

    def test_tests(self):
        for (one, first), (other, second) in itertools.product(self.expressions(0), self.expressions(0)):
            if first in LEVELS[one][:3] and second in LEVELS[other][:3]:
                for sign in SIGNS:
                    derived = 1 <= one <= 3 and second is None and sign in ("is", "is not")
                    self.check_row(one == other == 0 or derived, ("if", first, sign, second, (), ()))

    def test_all_derived_values_in_tests(self):
        for level, expression in self.expressions(0):
            for sign in SIGNS:
                is_right = level == 0 or (level <= 3 and sign in ("is", "is not"))
                self.check_row(is_right, ("if", expression, sign, None, (), ()))
                self.check_row(level == 0, ("if", None, sign, expression, (), ()))
                self.check_row(level == 0, ("if", expression, sign, "red", (), ()))


class UseTest(RowsCase):
    def test_what_is_not_there(self):
        for gone in GONE:
            for row in (
                ("set", "zero", gone), ("set", "three", gone), ("set", "three", ("page", gone)), ("let", "w", gone),
                ("return", gone), ("refuse", gone), ("super", None, gone, "x"), ("super", "w", "x", gone),
                ("if", gone, "is", None, (), ()), ("if", None, "is", gone, (), ()), ("if", ONE, "is", gone, (), ()),
                ("if", "x", "==", gone, (), ()),
            ):
                if not self.is_too_deep(row):
                    self.check_row(False, row)
            if not self.is_too_deep(("return", gone)):
                self.check_row(False, ("return", gone), level=3)

    def is_too_deep(self, row):
        return "('page', ('page', ('page', ('page'," in repr(row)

    def test_fields_that_are_set(self):
        for field in ("zero", "one", "two", "three"):
            self.check_row(True, ("set", field, None))
        for field in ("gone", "x", "red", "w", "other", "page"):
            self.check_row(False, ("set", field, None))

    def test_fields_and_constants_of_kinds_that_are_not_in_the_line(self):
        self.check_row(False, ("return", ("self", "other")))
        self.check_row(False, ("return", ("cls", "B")))
        self.check_row(True, ("return", ("cls", "A")))

    def test_marks_as_words(self):
        for word in ("red", "blue", "green", "x", "zero", "m"):
            is_right = word not in ("red", "blue")
            self.check_row(is_right, ("let", word, None))
            self.check_row(is_right, ("super", word, "x", "x"))

    def test_words_that_are_given_anywhere_in_the_method(self):
        for giver in (("let", "late", "x"), ("super", "late", "x", "y")):
            for use in (("return", "late"), ("refuse", "late"), ("set", "zero", "late"), ("let", "w", "late"),
                        ("set", "one", ("page", "late")), ("super", None, "late", "late"),
                        ("if", "late", "is", None, (), ())):
                for rows in ((use, giver), (giver, use), (nested_if(3, (giver,)), use), (use, nested_if(4, (giver,))),
                             (("if", "x", "is", "y", (use,), (giver,)),), (("if", "x", "is", "y", (giver,), (use,)),)):
                    self.assertEqual(3, len(self.make(rows)))
                self.check_raises(BadLibrary, {"at": 2, "part": "rows"}, self.make, (use,))

    def test_words_of_other_methods(self):
        # Methods k, l and o of this library, and earlier methods of this kind, give the word gone.
        self.check_row(False, ("return", "gone"))
        giver = Method("put", "p", rows=(("let", "w", "p"),))
        for word in ("p", "w"):
            kind = Kind("c", methods=(giver, Method("get", rows=(("return", word),))))
            self.check_raises(BadLibrary, {"at": 0, "part": "rows"}, Library, kind)

    def test_second_parameters(self):
        for word, is_right in (("x", True), ("y", True), ("p", False)):
            self.check_row(is_right, ("return", word))

    def test_a_super_without_a_word_gives_nothing(self):
        method = Method("m", rows=(("super", None), ("return", "w")))
        self.check_raises(BadLibrary, {"at": 0, "part": "rows"}, Library, Kind("a", methods=(method,)))

    def test_methods_of_the_base_with_fields_of_the_heir(self):
        base = Kind("a", methods=(Method("m", rows=(("return", ("self", "f")),)),))
        heir = Kind("b", "a", fields=(("f", 0, None),))
        self.check_raises(BadLibrary, {"at": 0, "part": "rows"}, Library, base, heir)

    def test_constants_and_fields_of_all_kinds_of_the_line(self):
        rows = (("set", "f", ("cls", "A")), ("set", "g", ("cls", "B")), ("set", "h", ("cls", "C")))
        library = Library(
            Kind("a", constants=(("A", None),), fields=(("f", 0, None),)),
            Kind("b", constants=(("B", None),), fields=(("g", 0, None),)),
            Kind("c", "b", "a", constants=(("C", None),), fields=(("h", 0, None),), methods=(Method("m", rows=rows),)),
        )
        self.assertEqual(("c", "b", "a"), library["c"].line)

    def test_level_of_a_field_that_the_base_has(self):
        base = Kind("a", fields=(("f", 2, None),))
        for level in (1, 2, 3):
            expression = nested_maker(level, "red")
            kind = Kind("b", "a", methods=(Method("m", rows=(("set", "f", expression),)),))
            again = Kind("b", "a", carry=Carry(again=(("set", "f", expression),)))
            if level <= 2:
                Library(base, kind, marks=("red",))
                Library(base, again, marks=("red",))
            else:
                self.check_raises(BadLibrary, {"at": 1, "part": "rows"}, Library, base, kind, marks=("red",))
                self.check_raises(BadLibrary, {"at": 1, "part": "carry"}, Library, base, again, marks=("red",))


if __name__ == "__main__":
    unittest.main()
