"""The forms of expressions and rows (7, 8), and the index of the first row that is wrong."""

import itertools
import unittest

from carriedfields.errors import BadRow
from carriedfields.kinds import Carry, Method
from samples import ODD, Case, nested, nested_if, nested_maker

GOOD = ("let", "w", "x")
WRONG = ("let", "w")
SIGNS = ("is", "is not", "==", "!=")

EXPRESSIONS = [
    None, "a", "draft", "abcdefgh", ("self", "item"), ("cls", "FIRST"), ("page", None), ("page", "x"),
    ("page", ("self", "item")), ("page", ("cls", "FIRST")), ("page", "x", None), ("page", None, ("self", "a")),
    ("item", "item", "item"), nested_maker(2), nested_maker(3), nested_maker(3, ("self", "a")),
    nested_maker(3, ("cls", "A")), nested_maker(3, None), ("a", nested_maker(2), nested_maker(2)),
    ("a", "x", nested_maker(2)), ("a", nested_maker(2), "x"), ("a", ("b", "x", "y"), ("c", ("d", "x"), ("e", "y"))),
]
NO_EXPRESSIONS = [odd for odd in ODD if odd is not None] + [
    (), (None,), ("page",), ("page", "x", "y", "z"), ("page", "x", "y", "z", "u"), ["page", "x"],
    ("page", ["self", "a"]),
    ["self", "item"], ["cls", "FIRST"], ("self", "item", "item"), ("cls", "FIRST", "LAST"), ("self", None),
    ("self", "FIRST"), ("cls", "first"), ("cls", None), ("self", ("self", "a")), ("cls", ("cls", "A")),
    ("self",), ("cls",),
    ("none", "x"), ("thing", "x"), ("super", "x"), ("PAGE", "x"), ("", "x"), (None, "x"), (("page",), "x"),
    (("page", "x"), "x"), ("page", True), ("page", 0), ("page", "x", False), ("page", "X"), ("page", "none"),
    ("page", ()), ("page", "x", ()), nested_maker(4), nested_maker(4, None), nested_maker(5), nested_maker(20),
    ("a", "x", nested_maker(3)), ("a", nested_maker(3), "x"), ("a", nested_maker(3, ("self", "b"))),
    ("page", nested(18)),
    (0, 0), (3, -1), ("self", True), ("a", ("b", ("c", ("d", "x", "y")))), ("a", ("b", ("c", True))),
    ("a", ("b", ("c", ("self",)))), {}, {"a": 1}, {"a"}, b"a", 1.5,
]


def rows_with(expression):
    """A row of each form, with the expression at each place."""
    return [
        ("set", "item", expression), ("let", "w", expression), ("return", expression), ("refuse", expression),
        ("super", None, expression), ("super", "w", expression), ("super", "w", "x", expression),
        ("super", "w", expression, "x"), ("super", None, "x", "x", "x", expression),
        ("if", expression, "is", "x", (), ()), ("if", "x", "is", expression, (), ()),
        ("if", expression, "!=", expression, (GOOD,), (GOOD,)),
    ]


class FormTest(Case):
    def check_right(self, row):
        self.assertEqual((row,), Method("put", rows=(row,)).rows)

    def check_wrong(self, row):
        self.check_raises(BadRow, {"at": 0}, Method, "put", rows=(row,))
        self.check_raises(BadRow, {"at": 2}, Method, "put", rows=(GOOD, GOOD, row, GOOD, WRONG))
        self.check_raises(BadRow, {"at": 0}, Carry, again=(row,))

    def test_right_expressions(self):
        for expression in EXPRESSIONS:
            for row in rows_with(expression):
                self.check_right(row)

    def test_wrong_expressions(self):
        for expression in NO_EXPRESSIONS:
            for row in rows_with(expression):
                self.check_wrong(row)

    def test_expressions_in_makers(self):
        for one, other in itertools.product(EXPRESSIONS[:10], EXPRESSIONS[:10]):
            self.check_right(("return", ("page", one, other)))
        for wrong in NO_EXPRESSIONS:
            self.check_wrong(("return", ("page", wrong)))
            self.check_wrong(("return", ("page", wrong, "x")))
            self.check_wrong(("return", ("page", "x", wrong)))
            self.check_wrong(("return", ("page", ("page", ("page", "x", wrong)))))

    def test_set(self):
        for row in (("set", "a", None), ("set", "item", "item")):
            self.check_right(row)
        for row in (
            ("set",), ("set", "a"), ("set", "a", "x", "y"), ("set", None, "x"), ("set", "A", "x"),
            ("set", ("self", "a"), "x"), ("set", "self", "x"), ["set", "a", "x"], ("set", "", "x"),
        ):
            self.check_wrong(row)

    def test_let(self):
        self.check_right(("let", "w", None))
        for row in (
            ("let",), ("let", "w"), ("let", "w", "x", "y"), ("let", None, "x"), ("let", "W", "x"), ["let", "w", "x"],
            ("let", ("self", "a"), "x"), ("let", True, "x"),
        ):
            self.check_wrong(row)

    def test_return_and_refuse(self):
        for head in ("return", "refuse"):
            self.check_right((head, None))
            for row in ((head,), (head, "x", "y"), [head, "x"], (head, "x", None)):
                self.check_wrong(row)

    def test_super(self):
        for row in (("super", None), ("super", "w"), ("super", None, *"abcdef"), ("super", "w", *("x",) * 2000)):
            self.check_right(row)
        for row in (("super",), ("super", "W"), ("super", ()), ("super", "self"), ("super", False), ["super", None]):
            self.check_wrong(row)

    def test_if(self):
        for sign in SIGNS:
            self.check_right(("if", "a", sign, None, (), ()))
            self.check_right(("if", "a", sign, None, (GOOD,), ()))
            self.check_right(("if", "a", sign, None, (), (GOOD,)))
        for row in (
            ("if",), ("if", "a", "is", "b"), ("if", "a", "is", "b", ()), ("if", "a", "is", "b", (), (), ()),
            ["if", "a", "is", "b", (), ()], ("if", "a", "is", "b", [], ()), ("if", "a", "is", "b", (), []),
            ("if", "a", "is", "b", None, ()), ("if", "a", "is", "b", (), None), ("if", "a", "is", "b", [GOOD], ()),
            ("if", "a", "is", "b", (), [GOOD]), ("if", "a", "is", "b", "", ()), ("if", "a", "is", "b", (), True),
        ):
            self.check_wrong(row)
        for sign in [None, "", "isnot", "is  not", "IS", "=", "<", "<>", "in", "not", ("is",), ["is"]] + list(ODD):
            self.check_wrong(("if", "a", sign, "b", (), ()))

    def test_other_heads(self):
        for head in ["", "Set", "sets", "else", "pass", "carry", "def", None, ("set",), ["set"], {}, True] + list(ODD):
            for rest in ((), ("a",), ("a", "x"), ("a", "is", "x", (), ())):
                self.check_wrong((head, *rest))

    def test_values_that_are_no_rows(self):
        for row in [None, (), "set", "return", ["return", None], {}] + list(ODD):
            self.check_wrong(row)


class IndexTest(Case):
    def check_at(self, at, rows):
        self.check_raises(BadRow, {"at": at}, Method, "put", rows=rows)
        self.check_raises(BadRow, {"at": at}, Carry, again=rows)

    def test_first_wrong_row(self):
        for at in range(16):
            self.check_at(at, (GOOD,) * at + (WRONG,))
            self.check_at(at, (GOOD,) * at + (WRONG,) * (16 - at))
            self.check_at(at, (GOOD,) * at + (None,) + (GOOD,) * 20)

    def test_within_ifs(self):
        inner = ("if", "a", "is", "b", (GOOD, WRONG), (GOOD, GOOD))
        self.check_at(2, (inner,))
        self.check_at(3, (GOOD, inner, WRONG))
        inner = ("if", "a", "is", "b", (GOOD, GOOD), (GOOD, WRONG))
        self.check_at(4, (inner,))
        self.check_at(5, (GOOD, inner, WRONG))
        self.check_at(3, (("if", "a", "is", "b", (), (GOOD, GOOD, WRONG)),))
        self.check_at(4, (("if", "a", "is", "b", (GOOD,), (GOOD, GOOD)), WRONG))

    def test_within_ifs_within_ifs(self):
        deep = ("if", "a", "is", "b", (GOOD,), (GOOD, WRONG))
        self.check_at(5, (("if", "a", "is", "b", (GOOD, deep, GOOD), (GOOD, GOOD)),))
        self.check_at(7, (("if", "a", "is", "b", (GOOD, GOOD), (GOOD, deep)),))
        right = ("if", "a", "is", "b", (GOOD,), (GOOD,))
        self.check_at(5, (("if", "a", "is", "b", (GOOD, right), (WRONG,)),))
        self.check_at(5, (("if", "a", "is", "b", (right,), (GOOD,)), WRONG))

    def test_first_rows_come_ahead_of_second_rows(self):
        self.check_at(1, (("if", "a", "is", "b", (WRONG,), (WRONG,)), WRONG))
        self.check_at(2, (("if", "a", "is", "b", (GOOD,), (WRONG,)), WRONG))
        self.check_at(1, (("if", "a", "is", "b", (), (WRONG,)), WRONG))

    def test_an_if_that_is_wrong_comes_ahead_of_its_rows(self):
        self.check_at(1, (GOOD, ("if", "A", "is", "b", (WRONG,), ())))
        self.check_at(1, (GOOD, ("if", "a", "was", "b", (WRONG,), (WRONG,))))
        self.check_at(1, (GOOD, ("if", "a", "is", "b", (WRONG,), [])))
        self.check_at(1, (GOOD, ("if", "a", "is", "b", [WRONG], (WRONG,))))
        self.check_at(2, (GOOD, ("if", "a", "is", "b", (("if", "a", "is", "b", (WRONG,)),), ())))

    def test_an_if_whose_rows_are_wrong_is_right_itself(self):
        for row in (None, [], "return", (), 0, [("let", "w", "x")]):
            self.check_at(2, (GOOD, ("if", "a", "is", "b", (row,), ())))
            self.check_at(2, (GOOD, ("if", "a", "is", "b", (), (row,))))

    def test_sixteen_rows(self):
        for count in (0, 1, 15, 16):
            self.assertEqual(count, len(Method("put", rows=(GOOD,) * count).rows))
        for count in (17, 18, 2900):
            self.check_at(16, (GOOD,) * count)

    def test_rows_within_ifs_count(self):
        def body(first, second, last):
            return (("if", "a", "is", "b", (GOOD,) * first, (GOOD,) * second),) + (GOOD,) * last
        for first, second, last in ((15, 0, 0), (0, 15, 0), (0, 0, 15), (5, 5, 5), (7, 8, 0), (0, 7, 8)):
            Method("put", rows=body(first, second, last))
            self.check_at(16, body(first + 1, second, last))
            self.check_at(16, body(first, second + 1, last))
            self.check_at(16, body(first, second, last + 1))

    def test_a_wrong_row_ahead_of_the_seventeenth(self):
        self.check_at(15, (GOOD,) * 15 + (WRONG, WRONG, WRONG))
        self.check_at(16, (GOOD,) * 16 + (WRONG,))

    def test_the_seventeenth_row_within_an_if(self):
        self.check_at(16, (GOOD,) * 15 + (("if", "a", "is", "b", (GOOD,), ()),))
        self.check_at(16, (GOOD,) * 14 + (nested_if(2, (GOOD, GOOD)),))

    def test_four_ifs(self):
        for depth in range(1, 5):
            Method("put", rows=(nested_if(depth, (GOOD,)),))
            Method("put", rows=(GOOD, nested_if(depth, (GOOD, GOOD)), GOOD))
        Method("put", rows=(nested_if(5),))
        self.check_at(5, (nested_if(5, (GOOD,)),))
        self.check_at(6, (GOOD, nested_if(5, (GOOD,))))
        self.check_at(5, (nested_if(6),))
        self.check_at(5, (nested_if(6, (WRONG,)),))
        self.check_at(5, (nested_if(8, (GOOD,)), WRONG))

    def test_four_ifs_in_second_rows(self):
        rows = (GOOD,)
        for depth in range(1, 6):
            rows = (("if", "a", "is", "b", (), rows),)
            if depth < 5:
                Method("put", rows=rows)
        self.check_at(5, rows)
        self.check_at(6, (("if", "a", "is", "b", (GOOD,), rows[0][5]),))

    def test_ifs_beside_one_another_are_not_within_one_another(self):
        Method("put", rows=(nested_if(4, (GOOD,)), nested_if(4, (GOOD,)), nested_if(4, (GOOD,))))
        self.check_at(10, (nested_if(4, (GOOD,)), nested_if(5, (GOOD,))))

    def test_a_wrong_row_ahead_of_too_many_ifs(self):
        self.check_at(0, (WRONG, nested_if(5, (GOOD,))))
        self.check_at(5, (nested_if(5, (GOOD,)), WRONG))

    def test_minus_one(self):
        for rows in (None, [], [GOOD], "let", 0, False, {}, Method("put"), Carry()):
            self.check_at(-1, rows)


if __name__ == "__main__":
    unittest.main()
