"""Runs (17, 18): calls and what is wrong with them, roles, histories."""

import unittest

from carriedfields.errors import BadCall, BadStep, BadValue, NoMethod, NotNow
from carriedfields.kinds import Method
from carriedfields.running import Run
from samples import ODD, ODD_WORDS, Case, shape_in

# What a caller can pass where the marks are red and blue, and what it cannot.
PASSED = [None, "red", "blue", (0, 0), (5, 3), (10 ** 100 - 1, 10 ** 100 - 1)]
NOT_PASSED = [odd for odd in ODD_WORDS if odd is not None and odd != (0, 0)] + [
    "green", "x", "put", (0, -1), (5, -10 ** 99), (-1, 0), (-5, -5), (True, 0), (0, True), (False, False), (1, False),
    [0, 0],
    (0,), (0, 0, 0), ((0, 0),), (None, 0), (0, None), (0, "0"), ("0", 0), ("page", 0), ("page", "red"), ("page", 0, 0),
    ("told", None), ["red"], ("red",), {"red"}, {}, 1.0, (0, 1.5), b"red", "Red", "RED", "red ",
]

LINES = (
    "f = none", "enter open(x):", "    self.f = x", "    if x is none:", "        refuse red", "    return self.f",
    "leave shut(x):", "    if x is none:", "        refuse blue", "    self.f = none", "def put(x, y):",
    "    self.f = x",
    "    return y", "def get():", "    return self.f",
)


class RunCase(Case):
    def setUp(self):
        self.shape = shape_in(*LINES)
        self.run_now = Run(self.shape)

    def check_unchanged(self, error, fields, call, *args):
        """The call raises this error, and the run is as before."""
        before = repr(self.run_now.state)
        self.check_raises(error, fields, call, *args)
        self.assertEqual(before, repr(self.run_now.state))


class CallsTest(RunCase):
    def test_a_new_object(self):
        shape = shape_in("A = red", "g = cls.A", "f = none", "d: 2", "e = blue", "class b(k):", "A = blue", name="b")
        run = Run(shape)
        self.assertEqual(((None, "blue", None, "blue"), False), run.state)
        self.assertIs(shape, run.shape)
        self.assertIs(False, run.is_within)
        self.assertEqual(((), False), Run(shape=shape_in("def m():")).state)

    def test_reports(self):
        for value in PASSED:
            self.assertEqual(repr(("told", value)), repr(self.run_now.call("put", None, value)))
            self.assertEqual(repr(("told", None)), repr(self.run_now.call("put", value, None)))
            self.assertEqual(repr(("told", value)), repr(self.run_now.call("get")))
            self.assertEqual(repr(((value,), False)), repr(self.run_now.state))

    def test_call_by_name(self):
        self.assertEqual(("told", None), self.run_now.call(name="get"))

    def test_set_up(self):
        for state in ((("red",), True), (((5, -3),), False), (((9, 9),), True)):
            for run in (Run.set_up(self.shape, state), Run.set_up(shape=self.shape, state=state)):
                self.assertIs(Run, run.__class__)
                self.assertEqual(state, run.state)
                self.assertIs(state[1], run.is_within)
                self.assertIs(self.shape, run.shape)
                self.assertEqual(("told", state[0][0]), run.call("get"))
                self.assertEqual(state, run.state)

    def test_states_are_values(self):
        run = self.run_now
        before = run.state
        run.call("put", (1, 1), None)
        self.assertEqual(((None,), False), before)
        self.assertEqual((((1, 1),), False), run.state)
        self.assertIs(tuple, run.state.__class__)
        self.assertIs(tuple, run.state[0].__class__)

    def test_two_runs_share_nothing(self):
        one, other = Run(self.shape), Run(self.shape)
        third = Run.set_up(self.shape, one.state)
        one.call("open", (4, 4))
        self.assertEqual((((4, 4),), True), one.state)
        self.assertEqual(((None,), False), other.state)
        self.assertEqual(((None,), False), third.state)
        other.call("put", "red", None)
        third.play((("call", "put", "blue", None),))
        self.assertEqual([(((4, 4),), True), (("red",), False), (("blue",), False)],
                         [one.state, other.state, third.state])
        self.check_foreign(one)

    def test_properties_cannot_be_set(self):
        for name in ("state", "is_within"):
            with self.assertRaises(AttributeError):
                setattr(self.run_now, name, ((None,), True))


class RolesTest(RunCase):
    def test_enter(self):
        run = self.run_now
        self.assertEqual(("refused", "red"), run.call("open", None))
        self.assertEqual(((None,), False), run.state)
        self.assertEqual(("told", "blue"), run.call("open", "blue"))
        self.assertEqual((("blue",), True), run.state)
        self.assertIs(True, run.is_within)
        self.check_unchanged(NotNow, {"name": "open"}, run.call, "open", None)
        self.check_unchanged(NotNow, {"name": "open"}, run.call, "open", "red")

    def test_leave(self):
        run = self.run_now
        self.check_unchanged(NotNow, {"name": "shut"}, run.call, "shut", None)
        self.check_unchanged(NotNow, {"name": "shut"}, run.call, "shut", "red")
        run.call("open", "red")
        self.assertEqual(("refused", "blue"), run.call("shut", None))
        self.assertEqual((("red",), False), run.state)
        self.assertIs(False, run.is_within)
        self.check_unchanged(NotNow, {"name": "shut"}, run.call, "shut", None)
        run.call("open", "red")
        self.assertEqual(("told", None), run.call("shut", "red"))
        self.assertEqual(((None,), False), run.state)

    def test_other_methods_at_any_time(self):
        for within in (False, True):
            run = Run.set_up(self.shape, ((None,), within))
            run.call("put", "red", "blue")
            self.assertEqual((("red",), within), run.state)
            run.call("get")
            self.assertIs(within, run.is_within)

    def test_refusals_of_other_methods_leave_within(self):
        shape = shape_in("enter a():", "def b():", "    refuse red")
        for within in (False, True):
            run = Run.set_up(shape, ((), within))
            self.assertEqual(("refused", "red"), run.call("b"))
            self.assertIs(within, run.is_within)

    def test_what_an_enter_sets_before_it_refuses_stays(self):
        run = Run.set_up(self.shape, (("red",), False))
        run.call("open", None)
        self.assertEqual(((None,), False), run.state)

    def test_enter_by_a_super(self):
        shape = shape_in(
            "enter a(x):", "    if x is none:", "        refuse red", "class b(k):", "enter a(x):", "    super(x)",
            "    return blue",
            "leave z():", "    refuse none", name="b",
        )
        run = Run(shape)
        self.assertEqual(("refused", "red"), run.call("a", None))
        self.assertIs(False, run.is_within)
        self.assertEqual(("told", "blue"), run.call("a", "red"))
        self.assertIs(True, run.is_within)
        self.assertEqual(("refused", None), run.call("z"))
        self.assertIs(False, run.is_within)

    def test_an_enter_that_returns_a_mark_called_refused(self):
        shape = shape_in("enter a():", "    return refused", "leave b():", "    return told", marks="refused told")
        run = Run(shape)
        run.call("a")
        self.assertIs(True, run.is_within)
        run.call("b")
        self.assertIs(False, run.is_within)

    def test_roles_with_levels(self):
        shape = shape_in("d: 1", "enter a(x) -> 1:", "    self.d = page(x)", "    return self.d", "leave b() -> 1:",
                         "    return self.d")
        run = Run(shape)
        self.assertEqual(("told", ("page", 3)), run.call("a", (3, 3)))
        self.assertIs(True, run.is_within)
        self.assertEqual(("told", ("page", 3)), run.call("b"))
        self.assertIs(False, run.is_within)


class WrongCallsTest(RunCase):
    def test_no_method(self):
        for name in ODD_WORDS + ("puts", "k", "f", "x", "red", "self", ("put",), ["put"], "put ", "Put", b"put",
                                 Method("put")):
            for things in ((), (None,), (None, None), (-1,), ((True, 0), [])):
                self.check_unchanged(NoMethod, {"name": name}, self.run_now.call, name, *things)

    def test_bad_call(self):
        for name, many in (("put", 2), ("get", 0), ("open", 1), ("shut", 1)):
            for count in range(5):
                if count != many:
                    for thing in (None, "green", (0, -1), [], True):
                        self.check_unchanged(BadCall, {"name": name}, self.run_now.call, name, *[thing] * count)

    def test_bad_value(self):
        for thing in NOT_PASSED:
            for good in PASSED:
                self.check_unchanged(BadValue, {"at": 0}, self.run_now.call, "put", thing, good)
                self.check_unchanged(BadValue, {"at": 1}, self.run_now.call, "put", good, thing)
            self.check_unchanged(BadValue, {"at": 0}, self.run_now.call, "put", thing, thing)
            self.check_unchanged(BadValue, {"at": 0}, self.run_now.call, "open", thing)

    def test_things_that_were_told(self):
        run = Run.set_up(self.shape, (((5, -1),), False))
        report = run.call("get")
        self.assertEqual(("told", (5, -1)), report)
        for thing in (report[1], report, run.state, run):
            self.check_raises(BadValue, {"at": 0}, run.call, "put", thing, None)

    def test_several_errors(self):
        self.check_unchanged(NoMethod, {"name": "nope"}, self.run_now.call, "nope", -1, [])
        self.check_unchanged(BadCall, {"name": "shut"}, self.run_now.call, "shut")
        self.check_unchanged(BadCall, {"name": "shut"}, self.run_now.call, "shut", -1, -1)
        self.check_unchanged(BadValue, {"at": 0}, self.run_now.call, "shut", -1)
        self.check_unchanged(NotNow, {"name": "shut"}, self.run_now.call, "shut", (1, 1))
        self.run_now.call("open", "red")
        self.check_unchanged(BadCall, {"name": "open"}, self.run_now.call, "open")
        self.check_unchanged(BadValue, {"at": 0}, self.run_now.call, "open", "green")
        self.check_unchanged(NotNow, {"name": "open"}, self.run_now.call, "open", "blue")

    def test_marks_are_those_of_the_library(self):
        for mark in ("red", "blue", "green"):
            run = Run(shape_in("def m(x):", "    return x", marks="green"))
            if mark == "green":
                self.assertEqual(("told", "green"), run.call("m", mark))
            else:
                self.check_raises(BadValue, {"at": 0}, run.call, "m", mark)

    def test_methods_are_those_of_the_line(self):
        lines = ("def m():", "class b:", "def n():", "class c(k):", "def o():")
        for name, right in (("k", "m"), ("b", "n"), ("c", "mo")):
            run = Run(shape_in(*lines, name=name))
            for method in "mno":
                if method in right:
                    self.assertEqual(("told", None), run.call(method))
                else:
                    self.check_raises(NoMethod, {"name": method}, run.call, method)


class PlayTest(RunCase):
    def test_reports_as_a_list(self):
        history = (
            ("call", "put", (5, 0), "red"), ("call", "get"), ("call", "open", None), ("call", "open", "blue"),
            ("call", "get"),
            ("call", "shut", None), ("call", "get"),
        )
        reports = [
            ("told", "red"), ("told", (5, 0)), ("refused", "red"), ("told", "blue"), ("told", "blue"),
            ("refused", "blue"),
            ("told", "blue"),
        ]
        found = self.run_now.play(history)
        self.assertEqual(repr(reports), repr(found))
        self.assertEqual((("blue",), False), self.run_now.state)
        other = Run(self.shape)
        self.assertEqual(reports, [other.call(*step[1:]) for step in history])
        self.assertEqual(other.state, self.run_now.state)

    def test_new_lists(self):
        run = self.run_now
        one = run.play((("call", "get"),))
        one.append(3)
        self.assertEqual([("told", None)], run.play(history=(("call", "get"),)))
        self.assertEqual([], run.play(()))
        self.assertIsNot(run.play(()), run.play(()))

    def test_it_goes_on_from_the_state(self):
        run = Run.set_up(self.shape, (("red",), True))
        self.assertEqual([("told", "red"), ("told", None)], run.play((("call", "get"), ("call", "shut", "red"))))
        self.assertEqual(((None,), False), run.state)

    def wrong_steps(self):
        steps = [
            (), ("call",), ("call", "nope"), ("call", "get", None), ("call", "put", None),
            ("call", "put", None, None, None),
            ("pass",), ("call", "put", None, "green"), ("call", "put", True, None), ("call", "put", None, (0, -1)),
            ("get",),
            ("call", "put", (True, 0), None), ("call", "put", (1, False), None), ["call", "get"], ("CALL", "get"),
            ("told", "get"),
            ("call", ("get",)), ("call", ["get"]), ("call", None), ("call", True), ("call", "put", [0, 0], None),
            ("put", None, None),
            (("call", "get"),), ("call", "get", ()), (None, "get"), (["call"], "get"), (True, "get"), "call get",
            "call", None,
            ("get", "call"), ("call", "red"), ("call", "f"), ("call", "open"), ("call", "shut", -1),
            (Method("call"), "get"),
        ]
        return steps + [odd for odd in ODD] + [("call",
                                                odd) for odd in ODD] + [("call", "open", odd) for odd in NOT_PASSED]

    def test_bad_steps(self):
        for step in self.wrong_steps():
            self.check_unchanged(BadStep, {"given": step}, self.run_now.play, (step,))
            good = ("call", "put", (7, 7), None)
            self.check_unchanged(BadStep, {"given": step}, self.run_now.play,
                                 (good, ("call", "open", "red"), step, good))

    def test_not_now(self):
        for steps, name in (
            ((("call", "shut", None),), "shut"),
            ((("call", "put", "red", None), ("call", "open", None), ("call", "shut", "red")), "shut"),
            ((("call", "open", "red"), ("call", "open", "red")), "open"),
            ((("call", "open", "red"), ("call", "shut", None), ("call", "shut", None)), "shut"),
        ):
            self.check_unchanged(NotNow, {"name": name}, self.run_now.play, steps)
            self.check_unchanged(NotNow, {"name": name}, self.run_now.play, steps + (("call", "nope"),))

    def test_the_first_error_in_order(self):
        opened = ("call", "open", "red")
        self.check_unchanged(BadStep, {"given": 3}, self.run_now.play, (opened, 3, opened))
        self.check_unchanged(NotNow, {"name": "open"}, self.run_now.play, (opened, opened, 3))
        self.check_unchanged(BadStep, {"given": ("call", "open", 3)}, self.run_now.play, (opened, ("call", "open", 3)))
        self.check_unchanged(BadStep, {"given": ("call", "shut")}, self.run_now.play,
                             (("call", "shut"), ("call", "shut", None)))

    def test_not_now_in_a_run_that_is_set_up(self):
        self.run_now = Run.set_up(self.shape, (((5, -1),), True))
        self.check_unchanged(NotNow, {"name": "open"}, self.run_now.play,
                             (("call", "put", None, None), ("call", "open", None)))
        self.check_unchanged(BadStep, {"given": []}, self.run_now.play, (("call", "shut", None), []))


if __name__ == "__main__":
    unittest.main()
