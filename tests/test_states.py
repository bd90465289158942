"""Values and states (5, 6, 17): what each function that takes them takes, and what it refuses."""

import unittest

from carriedfields.errors import BadState
from carriedfields.passages import Passage
from carriedfields.running import Run
from carriedfields.worlds import Worlds, calls_at, world_of
from samples import ODD, Case, nested_maker, shape_in

BIG = 10 ** 100 - 1
PLAIN = [None, "red", "blue", (0, 0), (5, 3), (5, -1), (0, -7), (BIG, BIG), (BIG, -BIG)]
# Derived values by their depths.
DERIVED = {
    1: [
        ("page", None), ("page", "red"), ("page", 0), ("page", BIG), ("page", "blue", 3), ("page", 3, None), ("red", 7),
        ("abcdefgh", 1, 1),
    ],
    2: [
        nested_maker(2, 1), ("page", ("leaf", None, 3)), ("page", None, ("leaf", "red")), ("page", ("leaf", 1), 2),
        ("page", ("leaf", 0, 1), ("leaf", 1, 0)),
    ],
    3: [
        nested_maker(3, 1), ("page", 1, nested_maker(2, "red")), ("page", nested_maker(2, "red"), 1),
        ("page", ("leaf", nested_maker(1, 1), nested_maker(1, 2)), ("leaf", 0, nested_maker(1, None))),
    ],
    4: [nested_maker(4, 1), ("page", 1, nested_maker(3, 1)), ("page", nested_maker(3, None), ("leaf", 1))],
    5: [nested_maker(5, 1)], 18: [nested_maker(18, 1)],
}
# Values that no field has.
NEVER = [odd for odd in ODD if odd not in ((0, 0), (3, -1), ("page", 1))] + [
    "green", "page", "k", "a", "none", (), (0,), (0, 0, 0), [0, 0], (True, 0), (0, True), (False, False), (0, False),
    (-1, 0),
    (-1, -1), (-BIG, 0), (0, None), (None, 0), ("0", 0), (0, "0"), ((0, 0), 0), (0, (0, 0)), (1.0, 0), (0, 1.0), {},
    {"a": 1},
    ("page",), ("page", 0, 0, 0), ["page", 0], ("page", [0]), ("page", True), ("page", False, 0), ("page", 0, True),
    ("page", -1), ("page", 0, -1), ("page", (0, 0)), ("page", (5, -1)), ("page", None, (0, 0)), ("page", "green"),
    ("page", "page"), ("page", "none"), ("page", "Red"), ("PAGE", 0), ("none", 0), ("self", 0), ("thing", 0),
    ("abcdefghi", 0),
    ("", 0), (None, 0), (("page", 0), 0), ("page", ()), ("page", ("leaf",)), ("page", ("leaf", 0, 0, 0)),
    ("page", ("leaf", True)),
    ("page", ("leaf", (0, 0))), ("page", ("leaf", ["red"])), ("page", ("Leaf", 0)), ("page", ("leaf", "green")),
    ("page", ["leaf", 0]), ("page", 0, ("leaf", -1)), ("page", ("leaf", 0, False), 1), ("page", ("x", ("y", True))),
    ("page", ("x", ("y", "green"))), ("cls", 0), ("told", (0, 0)), ("page", b"red"),
]


class StatesTest(Case):
    def setUp(self):
        self.shape = shape_in(
            "a = red", "b: 1", "c: 2", "d: 3", "def m(x):", "    self.a = x", "carry:", "    keep a b c", "    save d",
        )
        self.passage = Passage.of(self.shape)
        self.worlds = Worlds(self.shape)

    def check_right(self, values):
        for within in (False, True):
            state = (values, within)
            self.assertEqual(repr(state), repr(Run.set_up(self.shape, state).state))
            self.assertEqual(within, world_of(self.shape, state)[1])
            self.assertTrue(list(calls_at(self.shape, state)))
        self.assertEqual(repr(values), repr(self.passage(values)))
        self.assertEqual(4, len(self.passage.saved(values)))

    def check_wrong_values(self, values):
        self.check_raises(BadState, {"given": values}, self.passage, values)
        self.check_raises(BadState, {"given": values}, self.passage.saved, values)
        self.check_raises(BadState, {"given": values}, self.passage >> self.passage, values)
        self.check_wrong_state((values, False))
        self.check_wrong_state((values, True))

    def check_wrong_state(self, state):
        self.check_raises(BadState, {"given": state}, Run.set_up, self.shape, state)
        self.check_raises(BadState, {"given": state}, world_of, self.shape, state)
        self.check_raises(BadState, {"given": state}, lambda: list(calls_at(self.shape, state)))
        self.assertIs(False, state in self.worlds)

    def values_with(self, at, value):
        """Values with one that is given and others that are right."""
        values = ["blue", ("page", 1), ("page", ("leaf", 1)), None]
        values[at] = value
        return tuple(values)

    def test_plain_values(self):
        for value in PLAIN:
            self.check_right(self.values_with(0, value))
            for at in (1, 2, 3):
                if value is not None:
                    self.check_wrong_values(self.values_with(at, value))
                else:
                    self.check_right(self.values_with(at, value))

    def test_derived_values(self):
        for depth, values in DERIVED.items():
            for value in values:
                self.check_wrong_values(self.values_with(0, value))
                for at in (1, 2, 3):
                    if depth <= at:
                        self.check_right(self.values_with(at, value))
                    else:
                        self.check_wrong_values(self.values_with(at, value))

    def test_what_no_field_has(self):
        for value in NEVER:
            if value is not None:
                for at in range(4):
                    self.check_wrong_values(self.values_with(at, value))

    def test_values_of_wrong_length_and_class(self):
        right = ("red", None, None, None)
        for values in (
            (), right[:1], right[:3], right + (None,), list(right), [right], (right,), "redx", None, 4, True, {},
            dict(a=None),
            (right, False), (None,) * 5, (None,) * 3000,
        ):
            self.check_wrong_values(values)
        for odd in ODD:
            self.check_wrong_values(odd)

    def test_states_of_wrong_form(self):
        right = ("red", None, None, None)
        for state in (
            right, (right,), (right, False, False), [right, False], (list(right), False), (right, 0), (right, 1),
            (right, None),
            (right, "False"), (right, ()), (False, right), ((right, False),), (right, [False]), None, (),
            (right, False, None),
            (right, 1.0), {0: right, 1: False}, self.worlds, Run(self.shape), self.shape, (right, self.shape),
        ):
            self.check_wrong_state(state)
        for odd in ODD:
            self.check_wrong_state(odd)
            if not isinstance(odd, bool):
                self.check_wrong_state((right, odd))

    def test_what_the_package_returned(self):
        run = Run(self.shape)
        report = run.call("m", (4, 4))
        for state in (report, run.state + (False,), run.state[::-1], (run.state, False), self.worlds[0][0],
                      self.passage):
            self.check_wrong_state(state)
        entries = str(self.passage.saved(run.state[0]))
        for values in (entries, report, run.state, self.shape.fields, self.passage.saved(run.state[0])):
            self.check_wrong_values(values)

    def test_a_kind_without_fields(self):
        shape = shape_in("def m():")
        self.assertEqual(((), True), Run.set_up(shape, ((), True)).state)
        for state in (((None,), False), ((), 0), ([], False), (None, False), ((), False, ()), ()):
            self.check_raises(BadState, {"given": state}, Run.set_up, shape, state)
        self.assertEqual((), Passage(shape)(()))
        self.check_raises(BadState, {"given": (None,)}, Passage(shape), (None,))

    def test_marks_of_another_library(self):
        for marks, is_right in (("green", True), ("red green", True), ("red blue", False)):
            shape = shape_in("a = none", "b: 1", marks=marks)
            for values in (("green", None), (None, ("page", "green")), ("green", ("page", 0, "green"))):
                if is_right:
                    self.assertEqual((values, True), Run.set_up(shape, (values, True)).state)
                else:
                    self.check_raises(BadState, {"given": (values, True)}, Run.set_up, shape, (values, True))

    def test_fields_are_ascending(self):
        shape = shape_in("b: 1", "a = red")
        self.assertEqual((("red", None), False), Run(shape).state)
        self.check_raises(BadState, {"given": ((None, "red"), False)}, Run.set_up, shape, ((None, "red"), False))


if __name__ == "__main__":
    unittest.main()
