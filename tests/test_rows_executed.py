"""What rows do when they are executed (5, 6, 8, 12)."""

import itertools
import unittest

from carriedfields.running import Run
from samples import Case, shape_in

THINGS = [None, "red", "blue", (5, 0), (5, 1), (6, 0), (5, -1), (5, -2), (6, -1)]


def told(value):
    return ("told", value)


def refused(value):
    return ("refused", value)


def body(*lines, head="def m():"):
    """The lines of a method with these rows."""
    return [head] + ["    " + line for line in lines]


class ExecutedCase(Case):
    def check_calls(self, shape, *calls):
        """A new object gives these reports."""
        run = Run(shape)
        for name, things, report in calls:
            self.assertEqual(repr(report), repr(run.call(name, *things)), (name, things))
        return run


class ValuesTest(ExecutedCase):
    def test_expressions_of_level_0(self):
        shape = shape_in(
            "A = red", "B = none", "f = blue", "g = cls.A", "h = none", "d: 1",
            *body("return none", head="def a():"), *body("return red", head="def b():"),
            *body("return x", head="def c(x):"),
            *body("return y", head="def e(x, y):"), *body("return self.f", head="def f():"),
            *body("return cls.A", head="def g():"),
        )
        self.check_calls(
            shape, ("a", (), told(None)), ("b", (), told("red")), ("c", ((5, 3),), told((5, 3))),
            ("c", (None,), told(None)),
            ("c", ("blue",), told("blue")), ("e", ((5, 3), (5, 4)), told((5, 4))), ("f", (), told("blue")),
            ("g", (), told("red")),
        )
        self.assertEqual((None, "blue", "red", None), Run(shape).state[0])

    def test_field_values(self):
        shape = shape_in("f = none", *body("return self.f", head="def get():"))
        for value in THINGS:
            run = Run.set_up(shape, ((value,), False))
            self.assertEqual(told(value), run.call("get"))

    def test_derived_values_take_traces(self):
        shape = shape_in(
            "A = blue", "f = none", "d: 1", "e: 2",
            *body("self.d = page(x, self.f)", "return self.d", head="def one(x) -> 1:"),
            *body("self.e = leaf(self.d)", "return self.e", head="def two() -> 2:"),
            *body("return top(self.e, cls.A)", head="def three() -> 3:"),
            *body("return a(b(c(x, none), red), x)", head="def whole(x) -> 3:"),
            *body("self.f = x", head="def put(x):"),
        )
        run = self.check_calls(
            shape, ("one", ("red",), told(("page", "red", None))), ("one", ((7, 2),), told(("page", 7, None))),
            ("put", ((8, 9),), told(None)), ("one", ((7, 2),), told(("page", 7, 8))),
            ("two", (), told(("leaf", ("page", 7, 8)))),
            ("three", (), told(("top", ("leaf", ("page", 7, 8)), "blue"))),
            ("whole", ((3, 1),), told(("a", ("b", ("c", 3, None), "red"), 3))),
            ("whole", (None,), told(("a", ("b", ("c", None, None), "red"), None))),
        )
        self.assertEqual((("page", 7, 8), ("leaf", ("page", 7, 8)), (8, 9)), run.state[0])
        run = Run.set_up(shape, ((None, None, (4, -3)), False))
        self.assertEqual(told(("leaf", None)), run.call("two"))
        self.assertEqual(told(("page", None, 4)), run.call("one", None))

    def test_things_with_one_content_give_one_derived_value(self):
        shape = shape_in("f = none", *body("return page(self.f)", head="def get() -> 1:"))
        for number in (0, 4, -1, -9):
            self.assertEqual(told(("page", 5)), Run.set_up(shape, (((5, number),), True)).call("get"))

    def test_makers_that_are_called_as_other_words(self):
        shape = shape_in("x = none", *body("return x(x, self.x)", head="def x(x) -> 1:"),
                         *body("return red(red)", head="def y() -> 1:"))
        self.check_calls(shape, ("x", ((1, 1),), told(("x", 1, None))), ("y", (), told(("red", "red"))))


class TestsTest(ExecutedCase):
    def test_signs(self):
        shapes = {
            sign: shape_in(
                "f = none", "g = none", *body(f"if self.f {sign} self.g:", "    return red", "else:",
                                              "    return blue"),
            ) for sign in ("is", "is not", "==", "!=")
        }
        for one, other in itertools.product(THINGS, repeat=2):
            same = one == other
            agree = same or (isinstance(one, tuple) and isinstance(other, tuple) and one[0] == other[0])
            for sign, holds in (("is", same), ("is not", not same), ("==", agree), ("!=", not agree)):
                run = Run.set_up(shapes[sign], ((one, other), False))
                self.assertEqual(told("red" if holds else "blue"), run.call("m"), (one, sign, other))

    def test_signs_over_parameters_marks_and_none(self):
        for sign, expected in (("is", "nnn"), ("is not", "yyy"), ("==", "nyn"), ("!=", "yny")):
            shape = shape_in(
                *body(f"if x {sign} y:", "    return red", "return blue", head="def m(x, y):"),
                *body(f"if x {sign} none:", "    return red", "return blue", head="def n(x):"),
                *body(f"if blue {sign} x:", "    return red", "return blue", head="def o(x):"),
            )
            run = Run(shape)
            for want, (x, y) in zip(expected, (((5, 0), (6, 0)), ((5, 0), (5, 1)), ((5, 0), None))):
                self.assertEqual(told("red" if want == "y" else "blue"), run.call("m", x, y))
            holds = sign in ("is", "==")
            for name, thing in (("n", None), ("o", "blue")):
                self.assertEqual(told("red" if holds else "blue"), run.call(name, thing))
            for name, thing in (("n", "red"), ("n", (5, 0)), ("o", "red"), ("o", None), ("o", (5, 0))):
                self.assertEqual(told("blue" if holds else "red"), run.call(name, thing))

    def test_derived_values_and_none(self):
        for field, value in (("d", ("page", 1)), ("e", ("page", ("page", 1), 2)), ("h", ("page", None, None))):
            for sign in ("is", "is not"):
                shape = shape_in(
                    "d: 1", "e: 2", "h: 3", *body(f"if self.{field} {sign} none:", "    return red", "else:",
                                                  "    return blue"),
                    *body(f"if page(self.d) {sign} none:", "    return red", "else:", "    return blue",
                          head="def n():"),
                )
                values = tuple(value if name == field else None for name in "deh")
                holds = sign == "is"
                self.assertEqual(told("red" if holds else "blue"), Run(shape).call("m"))
                self.assertEqual(told("blue" if holds else "red"), Run.set_up(shape, (values, False)).call("m"))
                self.assertEqual(told("blue" if holds else "red"), Run(shape).call("n"))

    def test_rows_within_ifs(self):
        shape = shape_in(
            "f = none", "g = none",
            *body(
                "if x is none:", "    self.f = red", "    if self.g is none:", "        self.g = red", "    else:",
                "        self.g = blue", "        return blue", "    self.f = blue", "else:", "    self.g = x",
                "return self.g",
                head="def m(x):",
            ),
        )
        run = self.check_calls(shape, ("m", (None,), told("red")))
        self.assertEqual(("blue", "red"), run.state[0])
        self.assertEqual(told("blue"), run.call("m", None))
        self.assertEqual(("red", "blue"), run.state[0])
        self.assertEqual(told((3, 3)), run.call("m", (3, 3)))
        self.assertEqual(("red", (3, 3)), run.state[0])

    def test_ifs_four_deep(self):
        rows = ["return blue"]
        for sign, other in (("is", "x"), ("==", "x"), ("is not", "none"), ("!=", "red")):
            rows = [f"if x {sign} {other}:", *["    " + row for row in rows], "else:", f"    self.f = {other}"]
        shape = shape_in("f = blue", *body(*rows, "return self.f", head="def m(x):"))
        self.check_calls(shape, ("m", ("red",), told("red")), ("m", (None,), told(None)),
                         ("m", ((1, 1),), told("blue")))

    def test_ifs_without_rows(self):
        shape = shape_in(*body("if x is none:", "else:", "    return red", "if x is red:", "return blue",
                               head="def m(x):"))
        self.check_calls(shape, ("m", (None,), told("blue")), ("m", ("red",), told("red")))

    def test_an_if_sees_what_rows_before_it_set(self):
        shape = shape_in(
            "f = none",
            *body("self.f = x", "if self.f is red:", "    self.f = none", "if self.f is none:", "    return red",
                  "return blue",
                  head="def m(x):"),
        )
        self.check_calls(shape, ("m", ("red",), told("red")), ("m", ("blue",), told("blue")))


class WordsTest(ExecutedCase):
    def test_local_variables(self):
        shape = shape_in(*body("w = x", "v = w", "w = red", "return v", head="def m(x):"),
                         *body("w = x", "w = w", "return w", head="def n(x):"))
        self.check_calls(shape, ("m", ((5, 5),), told((5, 5))), ("n", ((5, 5),), told((5, 5))))

    def test_local_variables_without_a_value(self):
        shape = shape_in(
            *body("v = w", "w = red", "return v", head="def early():"),
            *body("if x is none:", "    w = red", "return w", head="def perhaps(x):"),
            *body("return w", "w = red", head="def never():"),
        )
        # What one call gave a variable is not there in the next one.
        self.check_calls(
            shape, ("early", (), told(None)), ("perhaps", (None,), told("red")), ("perhaps", ("blue",), told(None)),
            ("early", (), told(None)), ("never", (), told(None)),
        )

    def test_parameters_that_are_set_anew(self):
        shape = shape_in(
            "f = none", *body("x = self.f", "self.f = y", "y = x", "return y", head="def m(x, y):"),
            *body("if x is red:", "    x = blue", "return x", head="def n(x):"),
        )
        run = self.check_calls(
            shape, ("m", ("red", (1, 0)), told(None)), ("m", ("red", "blue"), told((1, 0))),
            ("n", ("red",), told("blue")),
            ("n", ("blue",), told("blue")), ("n", ((1, 0),), told((1, 0))),
        )
        self.assertEqual(("blue",), run.state[0])

    def test_words_and_fields_are_apart(self):
        shape = shape_in("x = red", *body("w = self.x", "x = blue", "return w", head="def m(x):"),
                         *body("return self.x", head="def x():"))
        self.check_calls(shape, ("m", ((1, 1),), told("red")), ("x", (), told("red")))

    def test_variables_that_are_called_as_other_things(self):
        shape = shape_in("m = red", *body("m = blue", "k = m", "return k"))
        self.check_calls(shape, ("m", (), told("blue")))


class EndsTest(ExecutedCase):
    def test_return_and_refuse(self):
        shape = shape_in(
            "f = none", *body("self.f = red", "return blue", "self.f = blue", head="def a():"),
            *body("self.f = blue", "refuse x", "self.f = red", head="def b(x):"), *body("refuse none", head="def c():"),
            *body("return x", "refuse x", head="def d(x):"), *body("return self.f", head="def h():"),
            *body("refuse self.f", head="def i():"),
        )
        run = self.check_calls(shape, ("a", (), told("blue")))
        self.assertEqual(("red",), run.state[0])
        run = self.check_calls(
            shape, ("b", ((4, 2),), refused((4, 2))), ("h", (), told("blue")), ("c", (), refused(None)),
            ("d", ((1, 1),), told((1, 1))), ("i", (), refused("blue")),
        )
        self.assertEqual(("blue",), run.state[0])

    def test_without_return_and_refuse(self):
        shape = shape_in("f = red", *body("self.f = none", head="def a():"), *body(head="def b():"),
                         *body(head="def c() -> 2:"))
        run = self.check_calls(shape, ("b", (), told(None)), ("c", (), told(None)), ("a", (), told(None)))
        self.assertEqual((None,), run.state[0])

    def test_returns_of_all_levels(self):
        shape = shape_in(
            "f = none", "d: 1", *body("return self.f", head="def a() -> 1:"), *body("return x", head="def b(x) -> 3:"),
            *body("return page(x)", head="def c(x) -> 2:"), *body("refuse x", head="def e(x) -> 3:"),
            *body("return self.d", head="def h() -> 1:"), *body("return red", head="def i() -> 1:"),
        )
        self.check_calls(
            shape, ("a", (), told(None)), ("b", ((5, 1),), told((5, 1))), ("c", ((5, 1),), told(("page", 5))),
            ("e", ((5, 1),), refused((5, 1))), ("h", (), told(None)), ("i", (), told("red")),
        )

    def test_what_was_set_before_a_refusal_stays(self):
        shape = shape_in(
            "f = none", "g = none", "d: 1",
            *body("self.f = x", "self.d = page(x)", "if x is red:", "    self.g = x", "    refuse blue",
                  "    self.g = none", "self.g = none",
                  "refuse x", head="def m(x):"),
        )
        run = Run(shape)
        self.assertEqual(refused("blue"), run.call("m", "red"))
        self.assertEqual((("page", "red"), "red", "red"), run.state[0])
        self.assertEqual(refused((2, 2)), run.call("m", (2, 2)))
        self.assertEqual((("page", 2), (2, 2), None), run.state[0])

    def test_a_return_within_ifs_ends_the_call(self):
        shape = shape_in(
            "f = none",
            *body("if x is none:", "    if x is none:", "        return red", "    self.f = red", "self.f = blue",
                  head="def m(x):"),
            *body("if x is none:", "else:", "    if x is red:", "    else:", "        refuse x", "    self.f = red",
                  "return self.f",
                  head="def n(x):"),
        )
        run = self.check_calls(shape, ("m", (None,), told("red")))
        self.assertEqual((None,), run.state[0])
        self.assertEqual(refused("blue"), run.call("n", "blue"))
        self.assertEqual((None,), run.state[0])
        self.assertEqual(told("red"), run.call("n", "red"))

    def test_sets_of_derived_fields(self):
        shape = shape_in(
            "d: 1", "e: 2", *body("self.d = page(x)", "self.e = self.d", head="def m(x):"),
            *body("self.d = none", head="def n():"), *body("self.e = leaf(self.d)", head="def o():"),
        )
        run = Run(shape)
        run.call("m", (8, 1))
        self.assertEqual((("page", 8), ("page", 8)), run.state[0])
        run.call("n")
        self.assertEqual((None, ("page", 8)), run.state[0])
        run.call("o")
        self.assertEqual((None, ("leaf", None)), run.state[0])


class SuperTest(ExecutedCase):
    def test_the_next_version(self):
        shape = shape_in(
            *body("w = super(x)", "return w", head="def m(x):"), "class b(k):", *body("return x", head="def m(x):"),
            "class c(b):", *body("w = super(red)", "return w", head="def m(x):"), "class d(c):", name="d",
        )
        self.assertEqual(("d", "c", "b", "k"), shape.line)
        self.check_calls(shape, ("m", ("blue",), told("red")))

    def test_the_first_version_of_the_line(self):
        lines = (
            *body("return red"), "class b(k):", *body("return blue"), "class c(k):", *body("return none"),
            "class d(c, b):",
        )
        for name, value in (("k", "red"), ("b", "blue"), ("c", None), ("d", None)):
            self.check_calls(shape_in(*lines, name=name), ("m", (), told(value)))

    def test_the_next_version_is_that_of_the_line_of_the_object(self):
        # In the line of d, b stands behind c, although c does not know b.
        lines = (
            "f = none", *body("self.f = x", "return x", head="def m(x):"), "class b(k):",
            *body("w = super(red)", "return w", head="def m(x):"),
            "class c(k):", *body("w = super(blue)", "return w", head="def m(x):"), "class d(c, b):",
            *body("w = super(x)", "return w", head="def m(x):"),
        )
        self.assertEqual(("d", "c", "b", "k"), shape_in(*lines, name="d").line)
        for name, value in (("k", None), ("b", "red"), ("c", "blue"), ("d", "red")):
            run = self.check_calls(shape_in(*lines, name=name), ("m", (None,), told(value)))
            self.assertEqual((value,), run.state[0])

    def test_kinds_without_the_method_are_passed_over(self):
        shape = shape_in(
            *body("return red"), "class b(k):", *body("return blue", head="def n():"), "class c(b):",
            *body("w = super()", "return w"),
            "class d(c):", *body("w = super()", "return w"), name="d",
        )
        self.check_calls(shape, ("m", (), told("red")), ("n", (), told("blue")))

    def test_without_a_next_version(self):
        shape = shape_in(
            *body("w = red", "w = super()", "return w"), *body("super(x)", "return x", head="def n(x):"),
            *body("x = super(x)", "return x", head="def o(x):"),
        )
        self.check_calls(shape, ("m", (), told(None)), ("n", ("red",), told("red")), ("o", ("red",), told(None)))

    def test_what_a_super_gives(self):
        lines = (
            "f = none", *body("self.f = x", head="def m(x):"), *body("return y", head="def n(x, y):"),
            *body("return none", head="def o():"),
            "class b(k):", *body("w = red", "w = super(x)", "return w", head="def m(x):"),
            *body("x = super(y, x)", "y = super(x, x)", "super(red, red)", "return x", head="def n(x, y):"),
            *body("w = super()", "return w", head="def o():"),
        )
        run = self.check_calls(
            shape_in(*lines, name="b"), ("m", ((3, 3),), told(None)), ("n", ((1, 1), (2, 2)), told((1, 1))),
            ("o", (), told(None)),
        )
        self.assertEqual(((3, 3),), run.state[0])

    def test_a_super_without_a_word_drops_the_result(self):
        shape = shape_in(
            *body("return red", head="def m(x):"), "class b(k):",
            *body("w = blue", "super(w)", "return w", head="def m(x):"), name="b",
        )
        self.check_calls(shape, ("m", (None,), told("blue")))

    def test_super_with_derived_values(self):
        shape = shape_in(
            "d: 2", *body("self.d = page(x)", "return leaf(self.d)", head="def m(x) -> 3:"), "class b(k):",
            *body("super(red)", "return leaf(self.d, x)", head="def m(x) -> 3:"), name="b",
        )
        run = self.check_calls(shape, ("m", ((2, 1),), told(("leaf", ("page", "red"), 2))))
        self.assertEqual((("page", "red"),), run.state[0])

    def test_words_of_versions_are_apart(self):
        shape = shape_in(
            *body("x = red", "w = red", "v = red", "return w", head="def m(x):"), "class b(k):",
            *body("w = blue", "super(x)", "v = super(w)", "u = x", "return w", head="def m(x):"),
            *body("v = super(x)", "return v", head="def n(x):"), "class c(b):",
            *body("w = x", "w = super(w)", "return v", "v = none", head="def m(x):"),
            name="c",
        )
        self.check_calls(shape, ("m", ((1, 1),), told(None)), ("n", ("red",), told(None)))
        shape = shape_in(
            *body("x = red", "w = red", "return w", head="def m(x):"), "class b(k):",
            *body("w = blue", "super(x)", "if w is blue:", "    return x", "return none", head="def m(x):"), name="b",
        )
        self.check_calls(shape, ("m", ((1, 1),), told((1, 1))))

    def test_a_super_may_stand_several_times_and_in_ifs(self):
        shape = shape_in(
            "f = none", "g = none", *body("self.g = self.f", "self.f = x", "return self.g", head="def m(x):"),
            "class b(k):",
            *body("if x is none:", "    w = super(red)", "    w = super(blue)", "else:", "    w = super(x)", "return w",
                  head="def m(x):"), name="b",
        )
        run = self.check_calls(shape, ("m", (None,), told("red")), ("m", ((1, 1),), told("blue")),
                               ("m", (None,), told("red")))
        self.assertEqual(("blue", "red"), run.state[0])

    def test_refusals_of_the_next_version(self):
        shape = shape_in(
            "f = none", "g = none", *body("self.f = x", "if x is red:", "    refuse x", "self.f = blue", "refuse none",
                                          head="def m(x):"),
            "class b(k):",
            *body("self.g = red", "w = super(x)", "self.g = blue", "return red", head="def m(x):"), "class c(b):",
            *body("if x is none:", "    super(red)", "    self.g = none", "super(x)", "self.g = none", "return none",
                  head="def m(x):"),
            name="c",
        )
        run = Run(shape)
        self.assertEqual(refused("red"), run.call("m", None))
        self.assertEqual(("red", "red"), run.state[0])
        self.assertEqual(refused(None), run.call("m", (2, 2)))
        self.assertEqual(("blue", "red"), run.state[0])
        run = self.check_calls(shape, ("m", ("red",), refused("red")))
        self.assertEqual(("red", "red"), run.state[0])

    def test_a_refused_thing_goes_through(self):
        shape = shape_in(*body("refuse x", head="def m(x) -> 1:"), "class b(k):",
                         *body("super(x)", "return page(x)", head="def m(x) -> 1:"), name="b")
        self.check_calls(shape, ("m", ((7, 7),), refused((7, 7))))

    def test_a_mark_that_is_told_as_refused_is_no_refusal(self):
        shape = shape_in(
            *body("return x", head="def m(x):"), "class b(k):", *body("w = super(x)", "return w", head="def m(x):"),
            marks="refused told",
            name="b",
        )
        self.check_calls(shape, ("m", ("refused",), told("refused")), ("m", ("told",), told("told")))


class HeirsTest(ExecutedCase):
    def test_constants_of_the_object_s_own_kind(self):
        lines = (
            "A = red", "B = none", "f = cls.A", *body("return cls.A", head="def a():"),
            *body("return cls.B", head="def b():"),
            "class b(k):", "A = blue", *body("w = super()", "return w", head="def a():"), "class c(k):", "B = red",
            "class d(c, b):",
        )
        for name, one, other in (("k", "red", None), ("b", "blue", None), ("c", "red", "red"), ("d", "blue", "red")):
            shape = shape_in(*lines, name=name)
            run = self.check_calls(shape, ("a", (), told(one)), ("b", (), told(other)))
            self.assertEqual((one,), run.state[0])

    def test_constants_in_tests_and_derived_values(self):
        lines = (
            "A = red", "d: 1", *body("if cls.A is red:", "    return leaf(cls.A)", "return page(cls.A)",
                                     head="def m() -> 1:"), "class b(k):", "A = blue",
        )
        self.check_calls(shape_in(*lines), ("m", (), told(("leaf", "red"))))
        self.check_calls(shape_in(*lines, name="b"), ("m", (), told(("page", "blue"))))

    def test_fields_of_all_kinds_of_the_line(self):
        lines = (
            "f = red", *body("self.f = x", head="def put(x):"), "class b:", "g = blue",
            *body("return self.g", head="def get():"),
            "class c(k, b):", "f = none", *body("self.g = self.f", head="def move():"),
        )
        run = self.check_calls(shape_in(*lines, name="c"), ("get", (), told("blue")))
        self.assertEqual((None, "blue"), run.state[0])
        run.call("put", (3, 1))
        run.call("move")
        self.assertEqual(((3, 1), (3, 1)), run.state[0])
        self.assertEqual(told((3, 1)), run.call("get"))


if __name__ == "__main__":
    unittest.main()
