"""Methods (9): what was passed, what is left out, equality, and each error in its order."""

import unittest

from carriedfields.errors import BadMethod, BadName, BadRow
from carriedfields.kinds import Method
from samples import LIBRARY, ODD, RESERVED, Case, nested, nested_if

ROWS = (("set", "item", "x"), ("return", ("self", "item")))


class MethodTest(Case):
    def test_example_of_the_document(self):
        put = Method("put", "x", rows=(("set", "item", "x"),))
        self.assertEqual(("x",), put.params)

    def test_what_was_passed(self):
        method = Method("put", "x", "y", rows=ROWS, level=2, role="enter")
        self.assertEqual("put", method.name)
        self.assertEqual(("x", "y"), method.params)
        self.assertIs(tuple, method.params.__class__)
        self.assertEqual(ROWS, method.rows)
        self.assertEqual(2, method.level)
        self.assertEqual("enter", method.role)

    def test_what_is_left_out(self):
        method = Method("put")
        self.assertEqual({"name": "put", "params": (), "rows": (), "level": 0, "role": None}, vars(method))
        self.assertIs(int, method.level.__class__)

    def test_by_name_and_by_position(self):
        self.check_equal(Method("put"), Method(name="put"))
        with self.assertRaises(TypeError):
            Method("put", params=("x",))
        with self.assertRaises(TypeError):
            Method()

    def test_all_levels_and_roles(self):
        for level in (0, 1, 2, 3):
            for role in (None, "enter", "leave"):
                method = Method("put", level=level, role=role)
                self.assertEqual((level, role), (method.level, method.role))

    def test_a_parameter_may_have_the_name_of_the_method(self):
        self.assertEqual(("put",), Method("put", "put").params)
        self.assertEqual(("x", "put"), Method("put", "x", "put").params)

    def test_the_first_wrong_name_is_told(self):
        self.check_raises(BadName, {"name": "UP"}, Method, "UP", "SIDE", "DOWN")
        self.check_raises(BadName, {"name": "SIDE"}, Method, "put", "SIDE", "DOWN")
        self.check_raises(BadName, {"name": "DOWN"}, Method, "put", "x", "DOWN")
        self.check_raises(BadName, {"name": "x"}, Method, "put", "x", "x")
        self.check_raises(BadName, {"name": "x"}, Method, "put", "x", "x", "DOWN")
        self.check_raises(BadName, {"name": "DOWN"}, Method, "put", "x", "DOWN", "x")
        self.check_raises(BadName, {"name": "put"}, Method, "put", "put", "put")
        self.check_raises(BadName, {"name": None}, Method, None, True)
        self.check_raises(BadName, {"name": True}, Method, "put", True, None)
        self.check_raises(BadName, {"name": 1}, Method, "put", 1, None)

    def test_the_name_that_is_told_is_what_was_passed(self):
        for value in ODD:
            for args in ((value,), ("put", value), ("put", "x", value), ("put", "x", "y", value)):
                with self.assertRaises(BadName) as caught:
                    Method(*args)
                self.assertIs(value, caught.exception.name)

    def test_more_than_two_parameters(self):
        self.check_raises(BadMethod, {"part": "params"}, Method, "put", "a", "b", "c")
        self.check_raises(BadMethod, {"part": "params"}, Method, "put", "put", "b", "c")
        self.check_raises(BadMethod, {"part": "params"}, Method, "put", "a", "b", "c", "d")
        self.check_raises(BadName, {"name": "a"}, Method, "put", "a", "b", "a")
        self.check_raises(BadName, {"name": "c"}, Method, "put", "a", "b", "c", "c")
        self.check_raises(BadName, {"name": "X"}, Method, "put", "a", "b", "c", "X")

    def test_wrong_levels(self):
        for level in [None, "a", "0", 4, 5, -1, -3, (1,), [1]] + [odd for odd in ODD if repr(odd) not in "0123"]:
            self.check_raises(BadMethod, {"part": "level"}, Method, "put", level=level)

    def test_wrong_roles(self):
        wrongs = ["Enter", "enters", "leav", "exit", "enter ", ("enter",), ["leave"], ("enter", "leave")]
        for role in wrongs + list(ODD):
            self.check_raises(BadMethod, {"part": "role"}, Method, "put", role=role)

    def test_rows_that_are_no_tuple(self):
        for rows in [None, "a", "set", [("set", "a", None)], list(ROWS), {}] + list(ODD):
            if not isinstance(rows, tuple):
                self.check_raises(BadRow, {"at": -1}, Method, "put", rows=rows)

    def test_rows_that_are_tuples_of_no_rows(self):
        for rows in ODD:
            if isinstance(rows, tuple) and rows:
                self.check_raises(BadRow, {"at": 0}, Method, "put", rows=rows)

    def test_the_order_of_the_errors(self):
        wrongs = (
            ("name", BadName, {"name": "UP"}), ("params", BadMethod, {"part": "params"}),
            ("level", BadMethod, {"part": "level"}), ("role", BadMethod, {"part": "role"}),
            ("rows", BadRow, {"at": 0}),
        )
        for number in range(1, 2 ** len(wrongs)):
            chosen = [wrong for at, wrong in enumerate(wrongs) if number >> at & 1]
            parts = [part for part, _, _ in chosen]
            args = ["put", "a", "b"] + ["c"] * ("params" in parts)
            if "name" in parts:
                args[number % len(args)] = "UP"
            self.check_raises(
                chosen[0][1], chosen[0][2], Method, *args, rows=((),) if "rows" in parts else ROWS[:0],
                level=True if "level" in parts else 1, role=1 if "role" in parts else None,
            )

    def test_rows_that_are_no_tuple_come_last_too(self):
        self.check_raises(BadMethod, {"part": "role"}, Method, "put", rows=[], role=0)
        self.check_raises(BadMethod, {"part": "level"}, Method, "put", rows=None, level=None)

    def test_what_is_not_looked_at(self):
        Method("put", rows=(
            ("set", "nowhere", ("page", ("page", ("page", ("self", "high"))))),
            ("return", ("page", "x")), ("refuse", ("self", "any")), ("super", "w", "a", "b", "c"), ("super", "w"),
            ("if", None, "==", ("page", ("cls", "GONE")), (), ()),
        ), level=3)


class EqualityTest(Case):
    def test_equal_arguments(self):
        for args, named in (
            (("put",), {}), (("put", "x"), {"rows": ROWS}), (("put", "x", "y"), {"level": 3, "role": "leave"}),
            (("put",), {"rows": (nested_if(4),)}),
        ):
            self.check_equal(Method(*args, **named), Method(*args, **named))
        self.check_equal(Method("put"), Method("put", rows=(), level=0, role=None))
        self.check_equal(Method("put", rows=ROWS), Method("put", rows=tuple(list(ROWS))))

    def test_each_part_changed(self):
        self.check_all_different([
            Method("put"), Method("puts"), Method("put", "x"), Method("put", "y"), Method("put", "x", "y"),
            Method("put", "y", "x"), Method("put", rows=ROWS), Method("put", rows=ROWS[:1]),
            Method("put", rows=ROWS[::-1]), Method("put", rows=(("set", "item", None),)), Method("put", level=1),
            Method("put", level=2), Method("put", role="enter"), Method("put", role="leave"),
            Method("put", "x", rows=ROWS, level=1, role="enter"),
        ])

    def test_other_classes(self):
        self.check_foreign(Method("put"))
        self.check_foreign(Method("box", "x"))

    def test_in_tuples(self):
        self.assertEqual((Method("put"),), (Method("put"),))
        self.assertIn(Method("put"), [None, Method("put")])
        self.assertNotIn(Method("puts"), [None, Method("put")])


class ArgumentsTest(Case):
    def test_arguments_are_not_changed(self):
        rows = [["set", "a", [None]], ("let", "b", ["page", "x"])]
        before = repr(rows)
        self.check_raises(BadRow, {"at": -1}, Method, "put", rows=rows)
        self.check_raises(BadRow, {"at": 0}, Method, "put", rows=tuple(rows))
        self.check_raises(BadRow, {"at": 0}, Method, "put", rows=tuple(rows[1:]))
        self.check_raises(BadName, {"name": rows}, Method, rows)
        self.assertEqual(before, repr(rows))

    def test_deep_and_wide_values(self):
        for value in (nested(20), nested(20, "x"), nested(19, [[]]), nested(20, "x", list), ("a",) * 3000):
            self.check_raises(BadName, {"name": value}, Method, value)
            self.check_raises(BadName, {"name": value}, Method, "put", value)
            self.check_raises(BadMethod, {"part": "level"}, Method, "put", level=value)
            self.check_raises(BadMethod, {"part": "role"}, Method, "put", role=value)
        self.check_raises(BadMethod, {"part": "role"}, Method, "put", role=LIBRARY)
        for word in RESERVED:
            if word not in ("enter", "leave"):
                self.check_raises(BadMethod, {"part": "role"}, Method, "put", role=word)


if __name__ == "__main__":
    unittest.main()
