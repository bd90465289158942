"""Callers, and the calls that they may make at a state (25, 27)."""

import inspect
import itertools
import types
import unittest

from carriedfields.errors import BadCallers, BadState
from carriedfields.worlds import Callers, calls_at
from samples import ODD, RESERVED, Case, shape_in


class CallersTest(Case):
    def check_wrong(self, part, **named):
        self.check_raises(BadCallers, {"part": part}, Callers, **named)

    def test_defaults(self):
        callers = Callers()
        self.assertEqual(repr((None, "equal", None, False)), repr((callers.times, callers.look, callers.methods,
                                                                   callers.fresh)))
        self.assertEqual({"times", "look", "methods", "fresh"}, set(vars(callers)))

    def test_attributes(self):
        for times in (None, 0, 1, 7, 10 ** 100 - 1):
            for look in ("equal", "same"):
                for methods in (None, (), ("put",), ("put", "put"), ("b", "a", "b"), ("nope", "abcdefgh")):
                    for fresh in (False, True):
                        callers = Callers(times=times, look=look, methods=methods, fresh=fresh)
                        told = (callers.times, callers.look, callers.methods, callers.fresh)
                        self.assertEqual(repr((times, look, methods, fresh)), repr(told))

    def test_times(self):
        for times in ODD + (-5, -10 ** 99, "", (), (1,), [1], 1.0, {}, "none"):
            if times not in (0, 1, 3, 10 ** 99) or isinstance(times, (bool, float)):
                self.check_wrong("times", times=times)
                self.check_wrong("times", times=times, look=3, methods=3, fresh=3)

    def test_look(self):
        for look in ODD + (None, "Equal", "SAME", "equals", "same ", ("equal",), ["same"], b"same", "",
                           ("equal", "same"), Callers()):
            self.check_wrong("look", look=look)
            self.check_wrong("look", times=2, look=look, methods=3, fresh=3)

    def test_methods(self):
        wrong = [(word,) for word in RESERVED] + [
            [], ["put"], "put", ("put", "Put"), ("put", None), (("put",),), ("put", ""), ("abcdefghi",), ("put", 1),
            {"put"}, {}, 0, "", (True,), ("put", ["a"]),
        ]
        for methods in list(ODD) + wrong:
            self.check_wrong("methods", methods=methods)
            self.check_wrong("methods", methods=methods, look="same", fresh=3)

    def test_fresh(self):
        for fresh in ODD + (None, 0, 1, (), "True", [True]):
            if not isinstance(fresh, bool):
                self.check_wrong("fresh", fresh=fresh)

    def test_equality(self):
        some = [
            {}, {"times": 0}, {"times": 1}, {"look": "same"}, {"methods": ()}, {"methods": ("a",)},
            {"methods": ("a", "a")}, {"methods": ("a", "b")},
            {"methods": ("b", "a")}, {"fresh": True}, {"times": 1, "fresh": True},
        ]
        self.check_all_different([Callers(**named) for named in some])
        for named in some:
            self.check_equal(Callers(**named), Callers(**named))
            self.check_foreign(Callers(**named))
        self.check_equal(Callers(), Callers(times=None, look="equal", methods=None, fresh=False))


def calls(method, *lists):
    """The calls of a method, a list of things for each."""
    return [("call", method, *things) for things in lists]


class CallsCase(Case):
    def check_calls(self, shape, state, expected, **named):
        found = list(calls_at(shape, state, **named))
        self.assertEqual(repr(expected), repr(found))

    def check_choices(self, values, expected, fresh=False):
        """The choices for the one parameter of a method at a state with these values."""
        fields = [f"{name}: 3" if self.is_derived(value) else f"{name} = none" for name, value in zip("abcde", values)]
        shape = shape_in(*fields, "def m(x):")
        for within in (False, True):
            self.check_calls(shape, (tuple(values), within), calls("m", *[(value,) for value in expected]),
                             callers=Callers(fresh=fresh))

    def is_derived(self, value):
        return isinstance(value, tuple) and isinstance(value[0], str)


class ChoicesTest(CallsCase):
    BEGIN = [None, "blue", "red"]

    def test_nothing_is_met(self):
        for fresh in (False, True):
            self.check_choices([], self.BEGIN + [(0, 0)], fresh)
            self.check_choices([None, "red"], self.BEGIN + [(0, 0)], fresh)
            self.check_choices([("page", None, "red")], self.BEGIN + [(0, 0)], fresh)

    def test_marks_are_ascending(self):
        for marks in ("", "b", "b a", "c a b d"):
            shape = shape_in("def m(x):", marks=marks)
            expected = [None, *sorted(marks.split()), (0, 0)]
            self.check_calls(shape, ((), False), calls("m", *[(value,) for value in expected]))

    def test_own_things(self):
        self.check_choices([(0, 0)], self.BEGIN + [(0, 0), (0, 1), (1, 0)])
        self.check_choices([(0, 0)], self.BEGIN + [(0, 1), (1, 0)], True)
        self.check_choices([(5, 3)], self.BEGIN + [(5, 3), (5, 4), (6, 0)])
        self.check_choices([(5, 3)], self.BEGIN + [(5, 4), (6, 0)], True)
        self.check_choices([(5, 3), (5, 1), (5, 3), (5, 2)], self.BEGIN + [(5, 3), (5, 1), (5, 2), (5, 4), (6, 0)])
        self.check_choices([(5, 3), (5, 1), (5, 3), (5, 2)], self.BEGIN + [(5, 4), (6, 0)], True)

    def test_the_order_of_contents(self):
        self.check_choices([(7, 0), (2, 1), (7, 2), (2, 0)],
                           self.BEGIN + [(7, 0), (7, 2), (7, 3), (2, 1), (2, 0), (2, 2), (8, 0)])
        self.check_choices([(2, 0), (7, 0)], self.BEGIN + [(2, 0), (2, 1), (7, 0), (7, 1), (8, 0)])
        self.check_choices([(7, 0), (2, 1), (7, 2), (2, 0)], self.BEGIN + [(7, 3), (2, 2), (8, 0)], True)

    def test_copies(self):
        self.check_choices([(5, -1)], self.BEGIN + [(5, 0), (6, 0)])
        self.check_choices([(5, -1)], self.BEGIN + [(5, 0), (6, 0)], True)
        self.check_choices([(5, -1), (5, 3), (4, -2)], self.BEGIN + [(5, 3), (5, 4), (4, 0), (6, 0)])
        self.check_choices([(4, 0), (5, -1), (4, -2)], self.BEGIN + [(4, 0), (4, 1), (5, 0), (6, 0)])

    def test_contents_of_derived_values(self):
        self.check_choices([("page", 5)], self.BEGIN + [(5, 0), (6, 0)])
        self.check_choices([("page", 5)], self.BEGIN + [(5, 0), (6, 0)], True)
        self.check_choices([("page", 5, 2)], self.BEGIN + [(5, 0), (2, 0), (6, 0)])
        self.check_choices([("page", ("leaf", 3, ("a", 9)), 2)], self.BEGIN + [(3, 0), (9, 0), (2, 0), (10, 0)])
        self.check_choices([("page", None, ("leaf", "red", 3))], self.BEGIN + [(3, 0), (4, 0)])
        self.check_choices([("page", 5, 2), (2, 4)], self.BEGIN + [(5, 0), (2, 4), (2, 5), (6, 0)])
        self.check_choices([(2, 4), ("page", 5, 2), (5, 0)], self.BEGIN + [(2, 4), (2, 5), (5, 0), (5, 1), (6, 0)])

    def test_second_parameters(self):
        shape = shape_in("a = none", "def m(x, y):", marks="red")
        expected = []
        for first, seconds in (
            (None, [None, "red", (5, 3), (5, 4), (6, 0)]), ("red", [None, "red", (5, 3), (5, 4), (6, 0)]),
            ((5, 3), [None, "red", (5, 3), (5, 4), (6, 0)]), ((5, 4), [None, "red", (5, 3), (5, 4), (5, 5), (6, 0)]),
            ((6, 0), [None, "red", (5, 3), (5, 4), (6, 0), (6, 1), (7, 0)]),
        ):
            expected.extend(calls("m", *[(first, second) for second in seconds]))
        self.check_calls(shape, (((5, 3),), False), expected)
        expected = []
        for first, seconds in (
            (None, [None, "red", (5, 4), (6, 0)]), ("red", [None, "red", (5, 4), (6, 0)]),
            ((5, 4), [None, "red", (5, 5), (6, 0)]),
            ((6, 0), [None, "red", (5, 4), (6, 1), (7, 0)]),
        ):
            expected.extend(calls("m", *[(first, second) for second in seconds]))
        self.check_calls(shape, (((5, 3),), False), expected, callers=Callers(fresh=True))

    def test_second_parameters_without_values(self):
        shape = shape_in("def m(x, y):", marks="")
        expected = [(None, None), (None, (0, 0)), ((0, 0), None), ((0, 0), (0, 0)), ((0, 0), (0, 1)), ((0, 0), (1, 0))]
        self.check_calls(shape, ((), False), calls("m", *expected))
        expected = [(None, None), (None, (0, 0)), ((0, 0), None), ((0, 0), (0, 1)), ((0, 0), (1, 0))]
        self.check_calls(shape, ((), False), calls("m", *expected), callers=Callers(fresh=True))

    def test_the_first_value_is_met_behind_all_others(self):
        shape = shape_in("a = none", "d: 1", "def m(x, y):", marks="")
        seconds = [call[3] for call in calls_at(shape, (((7, 1), ("page", 2)), False)) if call[2] == (2, 0)]
        self.assertEqual([None, (7, 1), (7, 2), (2, 0), (2, 1), (8, 0)], seconds)
        seconds = [call[3] for call in calls_at(shape, (((7, 1), ("page", 2)), False)) if call[2] == (7, 2)]
        self.assertEqual([None, (7, 1), (7, 2), (7, 3), (2, 0), (8, 0)], seconds)


class CallsTest(CallsCase):
    LINES = ("f = none", "def put(x):", "enter open():", "leave shut():", "def both(x, y) -> 1:", "def get():",
             "leave an(x):")

    def test_methods_in_order(self):
        shape = shape_in(*self.LINES, marks="")
        for within, names in ((False, ["both", "get", "open", "put"]), (True, ["an", "both", "get", "put", "shut"])):
            found = list(calls_at(shape, ((None,), within)))
            self.assertEqual(names, sorted({call[1] for call in found}))
            self.assertEqual(names, [name for name, _ in itertools.groupby(call[1] for call in found)])
            self.assertIn(("call", "get"), found)
            self.assertEqual([("call", "put", None), ("call", "put", (0, 0))],
                             [call for call in found if call[1] == "put"])

    def test_methods_that_are_left_out(self):
        shape = shape_in(*self.LINES, marks="")
        for methods in ((), ("put",), ("get", "put"), ("put", "get", "put"), ("nope", "open", "shut"),
                        ("an", "abcdefgh")):
            for within in (False, True):
                for fresh in (False, True):
                    whole = list(calls_at(shape, (((4, 4),), within), callers=Callers(fresh=fresh)))
                    expected = [call for call in whole if call[1] in methods]
                    self.check_calls(shape, (((4, 4),), within), expected,
                                     callers=Callers(methods=methods, fresh=fresh))

    def test_times_and_look_are_not_looked_at(self):
        shape = shape_in(*self.LINES)
        expected = list(calls_at(shape, (((4, 4),), True)))
        for callers in (None, Callers(), Callers(times=0), Callers(times=3, look="same")):
            self.check_calls(shape, (((4, 4),), True), expected, callers=callers)
            self.check_calls(shape=shape, state=(((4, 4),), True), expected=expected, callers=callers)

    def test_without_methods(self):
        self.check_calls(shape_in("f = none"), ((None,), False), [])
        self.check_calls(shape_in("leave m():"), ((), False), [])
        self.check_calls(shape_in("enter m():"), ((), True), [])

    def test_a_generator(self):
        shape = shape_in(*self.LINES)
        found = calls_at(shape, ((None,), False))
        self.assertIsInstance(found, types.GeneratorType)
        self.assertTrue(inspect.isgeneratorfunction(calls_at))
        self.assertEqual(("call", "both", None, None), next(found))
        for call in found:
            self.assertIs(tuple, call.__class__)
            self.assertEqual("call", call[0])

    def test_bad_state_when_it_is_iterated_over(self):
        shape = shape_in(*self.LINES)
        for state in ODD + ((), ((None,), 0), ([None], False), ((None, None), False), (("green",), False)):
            found = calls_at(shape, state, callers=Callers(methods=()))
            self.check_raises(BadState, {"given": state}, lambda found=found: next(found))
            self.check_raises(BadState, {"given": state}, lambda state=state: list(calls_at(shape, state)))

    def test_methods_of_the_line(self):
        lines = ("def m():", "class b:", "def n():", "class c(k, b):", "def a():")
        for name, methods in (("k", "m"), ("b", "n"), ("c", "amn")):
            self.check_calls(shape_in(*lines, name=name), ((), False), [("call", method) for method in methods])


if __name__ == "__main__":
    unittest.main()
