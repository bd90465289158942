"""Steps at pairs (27 to 30): which there are, what callers see of them, and where they lead."""

import inspect
import itertools
import types
import unittest

from carriedfields.errors import BadStep, NotNow
from carriedfields.pairs import Life, Pair
from carriedfields.passages import Passage
from carriedfields.worlds import Callers
from samples import ODD, Case, shape_in

PASS = ("pass",)
NONE = ("told", None)


def calls(method, *lists):
    """The calls of a method, a list of things for each."""
    return [("call", method, *things) for things in lists]


class StepsCase(Case):
    def check_steps(self, pair, expected):
        before = repr((pair.joint, pair.states))
        self.assertEqual(repr(expected), repr(list(pair.steps())))
        self.assertEqual(before, repr((pair.joint, pair.states)))

    def check_do(self, pair, step, wanted):
        """The step gives this."""
        self.assertEqual(repr(wanted), repr(pair.do(step)), step)

    def check_stays(self, error, told, pair, step):
        """The step raises this error, and the pair is as before, also where other steps stand in front of it."""
        before = repr((pair.joint, pair.states, list(pair.steps())))
        self.check_raises(error, told, pair.do, step)
        self.check_raises(error, told, pair.do, step=step)
        self.check_raises(error, told, pair.play, (step,))
        self.assertEqual(before, repr((pair.joint, pair.states, list(pair.steps()))))


class OrderTest(StepsCase):
    SHAPE = shape_in("a = none", "def put(x):", "    self.a = x", "def both(x, y):", "def get():", "    return self.a",
                     marks="red")

    def test_a_generator(self):
        pair = Pair(Life(self.SHAPE), Life(self.SHAPE))
        self.assertIsInstance(pair.steps(), types.GeneratorType)
        self.assertTrue(inspect.isgeneratorfunction(Pair.steps))
        for step in pair.steps():
            self.assertIs(tuple, step.__class__)

    def test_new_objects(self):
        begin = [None, "red", (0, 0)]
        later = {None: begin, "red": begin, (0, 0): [None, "red", (0, 0), (0, 1), (1, 0)]}
        both = [(one, two) for one in begin for two in later[one]]
        expected = calls("both", *both) + calls("get", ()) + calls("put", *[(one,) for one in begin])
        self.check_steps(Pair(Life(self.SHAPE), Life(self.SHAPE)), expected)
        later[(0, 0)] = [None, "red", (0, 1), (1, 0)]
        both = [(one, two) for one in begin for two in later[one]]
        expected = calls("both", *both) + calls("get", ()) + calls("put", *[(one,) for one in begin])
        self.check_steps(Pair(Life(self.SHAPE), Life(self.SHAPE), callers=Callers(fresh=True)), expected)
        life = Life(self.SHAPE, Passage(self.SHAPE))
        self.check_steps(Pair(Life(self.SHAPE), life, callers=Callers(fresh=True)), expected + [PASS])

    def check_choices(self, values, others, choices, fresh=False):
        """The choices for one parameter at objects with these values; other numbers stand in the joint world."""
        lines = [f"{name} = none" for name in "abc"[:len(values) - 1]] + ["d: 3"]
        shape = shape_in(*lines, "def put(x):", marks="red blue")
        for within in (False, True):
            pair = Pair.set_up(Life(shape), Life(shape), ((values, False), (others, False), within, None),
                               callers=Callers(fresh=fresh))
            self.check_steps(pair, calls("put", *[(choice,) for choice in [None, "blue", "red", *choices]]))

    def test_things_of_both(self):
        self.check_choices(((0, 0), None), ((0, 0), None), [(0, 0), (0, 1), (1, 0)])
        self.check_choices(((0, 0), None), ((0, 0), None), [(0, 1), (1, 0)], True)
        self.check_choices(((0, 0), None), ((0, 1), None), [(0, 0), (0, 1), (0, 2), (1, 0)])
        self.check_choices(((0, 0), None), ((0, 1), None), [(0, 2), (1, 0)], True)
        self.check_choices(((0, 0), None), ((1, 0), None), [(0, 0), (0, 1), (1, 0), (1, 1), (2, 0)])
        self.check_choices(((0, 0), None), ((1, 0), None), [(0, 1), (1, 1), (2, 0)], True)
        self.check_choices((None, None), ((0, 0), None), [(0, 0), (0, 1), (1, 0)])
        self.check_choices((None, ("page", 0)), ((0, 0), None), [(0, 0), (0, 1), (1, 0)])
        self.check_choices(((0, 0), ("page", 1)), ((2, 0), ("page", 1, 3)),
                           [(0, 0), (0, 1), (1, 0), (2, 0), (2, 1), (3, 0), (4, 0)])
        self.check_choices(((0, 0), ("page", 1)), ((1, 0), None), [(0, 0), (0, 1), (1, 0), (1, 1), (2, 0)])
        self.check_choices(((0, 0), (1, 0), None), ((1, 1), (0, 1), None),
                           [(0, 0), (0, 1), (0, 2), (1, 0), (1, 1), (1, 2), (2, 0)])

    def test_copies_are_no_choices(self):
        for fresh in (False, True):
            self.check_choices(((0, -1), None), ((0, -1), None), [(0, 0), (1, 0)], fresh)
            self.check_choices(((0, -1), None), ((1, -1), None), [(0, 0), (1, 0), (2, 0)], fresh)
            self.check_choices(((0, -1), None), (None, ("page", 1)), [(0, 0), (1, 0), (2, 0)], fresh)
        self.check_choices(((0, 0), None), ((0, -1), None), [(0, 0), (0, 1), (1, 0)])
        self.check_choices(((0, 0), None), ((0, -1), None), [(0, 1), (1, 0)], True)
        self.check_choices(((0, -1), None), ((0, 0), None), [(0, 0), (0, 1), (1, 0)])
        self.check_choices(((0, -1), None), ((0, 0), None), [(0, 1), (1, 0)], True)

    def test_as_the_objects_are_and_not_as_their_joint_world(self):
        pair = Pair(Life(self.SHAPE), Life(self.SHAPE, Passage(self.SHAPE, save=("a",))),
                    callers=Callers(methods=("put",)))
        pair.play((("call", "put", (7, 5)), PASS))
        self.check_steps(pair, calls("put", (None,), ("red",), ((7, 5),), ((7, 6),), ((8, 0),)) + [PASS])
        pair = Pair(Life(self.SHAPE), Life(self.SHAPE), callers=Callers(methods=("both", "put")))
        pair.do(("call", "put", (7, 5)))
        seconds = {
            None: [None, "red", (7, 5), (7, 6), (8, 0)], "red": [None, "red", (7, 5), (7, 6), (8, 0)],
            (7, 5): [None, "red", (7, 5), (7, 6), (8, 0)], (7, 6): [None, "red", (7, 5), (7, 6), (7, 7), (8, 0)],
            (8, 0): [None, "red", (7, 5), (7, 6), (8, 0), (8, 1), (9, 0)],
        }
        both = calls("both", *[(one, two) for one, twos in seconds.items() for two in twos])
        self.check_steps(pair, both + calls("put", *[(one,) for one in seconds]))

    def test_second_parameters_of_fresh_callers(self):
        pair = Pair.set_up(Life(self.SHAPE), Life(self.SHAPE), ((((0, 0),), False), (((0, 1),), False), False, None),
                           callers=Callers(methods=("both",), fresh=True))
        seconds = {None: [None, "red", (0, 2), (1, 0)], "red": [None, "red", (0, 2), (1, 0)],
                   (0, 2): [None, "red", (0, 3), (1, 0)], (1, 0): [None, "red", (0, 2), (1, 1), (2, 0)]}
        self.check_steps(pair, calls("both", *[(one, two) for one, twos in seconds.items() for two in twos]))

    def test_methods_that_are_left_out(self):
        life = Life(self.SHAPE, Passage(self.SHAPE))
        whole = list(Pair(life, life).steps())
        for methods in ((), ("put",), ("get", "both"), ("both", "get", "both"), ("nope",), ("put", "nope", "get")):
            expected = [step for step in whole if step == PASS or step[1] in methods]
            self.check_steps(Pair(life, life, callers=Callers(methods=methods)), expected)

    def test_roles(self):
        shape = shape_in("def an():", "leave off():", "enter on():", "def put(x):", marks="")
        other = shape_in("def put(y):", "    return y", "leave off():", "def an():", "enter on():", marks="")
        passage = Passage(shape)
        for within, names in ((False, ["an", "on", "put", "put"]), (True, ["an", "off", "put", "put"])):
            joint = (((), False), ((), False), within, None)
            pair = Pair.set_up(Life(shape, passage), Life(other), joint)
            steps = [step[1] if step != PASS else "pass" for step in pair.steps()]
            self.assertEqual(names + ["pass"] * (not within), steps)


class PassTest(StepsCase):
    LINES = ("a = none", "def put(x):", "    self.a = x", "def get():", "    return self.a")
    SHAPE = shape_in(*LINES)
    GOAL = shape_in("b = red", *LINES)
    STAY = Passage(SHAPE, keep=("a",))
    WHEN = Passage(SHAPE, keep=("a",), when=((("self", "a"), "is", None),))
    MOVE = Passage(SHAPE, keep=("a",), into=GOAL)
    BACK = Passage(GOAL, keep=("a",), into=SHAPE)

    def check_pass(self, pair, is_possible):
        steps = list(pair.steps())
        self.assertEqual([PASS] * is_possible, [step for step in steps if step[0] != "call"])
        if is_possible:
            self.assertEqual(PASS, steps[-1])
            before = pair.states
            self.assertIsNone(pair.do(PASS))
            return before
        self.check_stays(NotNow, {"name": "pass"}, pair, PASS)
        return None

    def test_routes(self):
        none, stay = Life(self.SHAPE), Life(self.SHAPE, self.STAY)
        for one, other in itertools.product((none, stay, Life(self.SHAPE, self.STAY >> self.STAY)), repeat=2):
            pair = Pair(one, other)
            for _ in range(4):
                self.check_pass(pair, one.route is not None or other.route is not None)
                self.assertEqual((((None,), False), ((None,), False), False, None), pair.joint)

    def test_passages_that_are_left(self):
        for life in (Life(self.SHAPE), Life(self.SHAPE, self.STAY >> self.STAY)):
            for times in (0, 1, 3):
                pair = Pair(life, Life(self.SHAPE, self.STAY), callers=Callers(times=times))
                for left in reversed(range(times)):
                    self.check_pass(pair, True)
                    self.assertEqual(repr(left), repr(pair.joint[3]))
                self.check_pass(pair, False)
                self.assertEqual(repr(0), repr(pair.joint[3]))
                # Calls go on.
                self.check_do(pair, ("call", "put", "red"), (NONE, NONE))
                self.check_do(pair, ("call", "get"), (("told", "red"),) * 2)
        pair = Pair(Life(self.SHAPE), Life(self.SHAPE, self.STAY), callers=Callers(times=10 ** 99))
        self.check_pass(pair, True)
        self.assertEqual(10 ** 99 - 1, pair.joint[3])

    def test_tests_of_one_object(self):
        for route in (None, self.STAY, self.WHEN, self.WHEN >> self.STAY, self.STAY >> self.WHEN):
            for pair in (
                Pair(Life(self.SHAPE, self.WHEN), Life(self.SHAPE, route)),
                Pair(Life(self.SHAPE, route), Life(self.SHAPE, self.WHEN)),
                Pair(Life(self.SHAPE, route), Life(self.SHAPE, self.STAY >> self.WHEN >> self.STAY)),
            ):
                self.check_pass(pair, True)
                self.check_do(pair, ("call", "put", (3, 3)), (NONE, NONE))
                self.check_pass(pair, False)
                self.check_do(pair, ("call", "put", None), (NONE, NONE))
                self.check_pass(pair, True)
        # The test holds for one object and not for the other one.
        lives = (Life(self.SHAPE, self.WHEN), Life(self.SHAPE, self.WHEN))
        for one, other, is_possible in ((None, "red", False), ("red", None, False), (None, None, True)):
            pair = Pair.set_up(*lives, (((one,), False), ((other,), False), False, None))
            self.check_pass(pair, is_possible)

    def test_within(self):
        lines = ("enter on():", "leave off():")
        shape = shape_in(*lines)
        pair = Pair(Life(shape, Passage(shape)), Life(shape))
        self.check_pass(pair, True)
        pair.do(("call", "on"))
        self.check_pass(pair, False)
        pair.do(("call", "off"))
        self.check_pass(pair, True)
        joint = (((None,), False), ((None,), False), True, None)
        pair = Pair.set_up(Life(self.SHAPE, self.STAY), Life(self.SHAPE), joint)
        self.check_pass(pair, False)

    def test_objects_that_moved(self):
        kept, moving = Life(self.SHAPE), Life(self.SHAPE, self.MOVE)
        staying, round_trip = Life(self.SHAPE, self.STAY), Life(self.SHAPE, self.MOVE >> self.BACK)
        for one, other, moved in (
            (kept, moving, (False, True)), (moving, kept, (True, False)), (moving, moving, (True, True)),
            (staying, moving, (False, True)), (moving, staying, (True, False)), (round_trip, moving, (False, True)),
            (kept, Life(self.SHAPE, self.STAY >> self.MOVE), (False, True)),
        ):
            for times in (None, 1, 5):
                pair = Pair(one, other, callers=Callers(times=times))
                pair.do(("call", "put", (4, 4)))
                self.check_pass(pair, True)
                self.assertEqual(repr(moved), repr((pair.joint[0][1], pair.joint[1][1])))
                for (values, _), is_moved in zip(pair.states, moved):
                    self.assertEqual(((4, 4), "red") if is_moved else ((4, 4),), values)
                self.assertEqual(repr(None if times is None else times - 1), repr(pair.joint[3]))
                self.check_pass(pair, False)
                self.check_do(pair, ("call", "get"), (("told", ("thing", 4)),) * 2)
                self.check_do(pair, ("call", "put", None), (NONE, NONE))
                self.check_pass(pair, False)
        pair = Pair(kept, round_trip)
        for _ in range(3):
            self.check_pass(pair, True)
            self.assertEqual((False, False), (pair.joint[0][1], pair.joint[1][1]))

    def test_a_pass_counts_as_one_passage(self):
        route = self.STAY >> self.STAY >> self.STAY
        pair = Pair(Life(self.SHAPE, route), Life(self.SHAPE, route >> route), callers=Callers(times=2))
        self.check_pass(pair, True)
        self.assertEqual(1, pair.joint[3])
        self.check_pass(pair, True)
        self.check_pass(pair, False)

    def test_what_a_pass_does(self):
        save = Passage(self.SHAPE, save=("a",))
        drop = Passage(self.SHAPE, again=(("set", "a", "blue"),))
        for route, value in ((None, (4, 4)), (self.STAY, (4, 4)), (save, (4, -1)), (save >> save, (4, -1)),
                             (drop, "blue"), (Passage(self.SHAPE), None), (save >> drop, "blue")):
            pair = Pair(Life(self.SHAPE, save), Life(self.SHAPE, route))
            pair.do(("call", "put", (4, 4)))
            self.check_do(pair, PASS, None)
            self.assertEqual(((((4, -1),), False), ((value,), False)), pair.states)

    def test_methods_and_fresh_do_not_restrict_passes(self):
        pair = Pair(Life(self.SHAPE, self.STAY), Life(self.SHAPE), callers=Callers(methods=(), fresh=True))
        self.check_steps(pair, [PASS])
        self.check_pass(pair, True)


class SeenTest(StepsCase):
    SHAPE = shape_in("a = none", "d: 2", "def tell():", "    return self.a", "def deny():", "    refuse self.a",
                     "def give(x):", "    return x", "def show() -> 2:", "    return self.d", "def noting():",
                     "    return none", "def set(x):", "    self.a = x", marks="red blue")

    def check_seen(self, values, others, step, equal, same):
        """What callers see, by equal and by same, of a call of objects with these values."""
        joint = ((values, False), (others, False), False, None)
        for look, wanted in (("equal", equal), ("same", same)):
            pair = Pair.set_up(Life(self.SHAPE), Life(self.SHAPE), joint, callers=Callers(look=look))
            self.check_do(pair, step, wanted)
            self.assertEqual(repr(joint), repr(pair.joint))
            pair = Pair.set_up(Life(self.SHAPE), Life(self.SHAPE), joint, callers=Callers(look=look))
            self.assertEqual(repr([wanted, wanted]), repr(pair.play((step, step))))

    def test_things(self):
        for one, other, equal, same in (
            ((0, 0), (0, 0), (("thing", 0), ("thing", 0)), (("thing", 0, 0), ("thing", 0, 0))),
            ((0, 0), (0, 1), (("thing", 0), ("thing", 0)), (("thing", 0, 0), ("thing", 0, 1))),
            ((0, 0), (0, -1), (("thing", 0), ("thing", 0)), (("thing", 0, 0), ("thing", 0, -1))),
            ((0, -1), (0, 0), (("thing", 0), ("thing", 0)), (("thing", 0, -1), ("thing", 0, 0))),
            ((0, -1), (0, -1), (("thing", 0), ("thing", 0)), (("thing", 0, -1), ("thing", 0, -1))),
            ((0, -1), (1, -1), (("thing", 0), ("thing", 1)), (("thing", 0, -1), ("thing", 1, -1))),
            ((0, 0), (1, 0), (("thing", 0), ("thing", 1)), (("thing", 0, 0), ("thing", 1, 0))),
            ((0, 0), None, (("thing", 0), None), (("thing", 0, 0), None)),
            ("red", (0, -1), ("red", ("thing", 0)), ("red", ("thing", 0, -1))),
            ("red", "red", ("red", "red"), ("red", "red")), ("red", "blue", ("red", "blue"), ("red", "blue")),
            (None, None, (None, None), (None, None)), (None, "red", (None, "red"), (None, "red")),
        ):
            for word, name in (("told", "tell"), ("refused", "deny")):
                self.check_seen((one, None), (other, None), ("call", name),
                                tuple((word, value) for value in equal), tuple((word, value) for value in same))

    def test_copies_with_other_numbers(self):
        shape = shape_in("a = none", "b = none", "def tell():", "    return self.b")
        joint = ((((0, -1), (0, -2)), False), (((0, -1), (0, -1)), False), False, None)
        for look, seen in (("equal", ("thing", 0)), ("same", ("thing", 0, -1))):
            pair = Pair.set_up(Life(shape), Life(shape), joint, callers=Callers(look=look))
            self.check_do(pair, ("call", "tell"), (("told", seen), ("told", seen)))

    def test_derived_values(self):
        page = ("page", 0)
        for one, other in ((page, page), (page, None), (None, page), (page, ("leaf", 0)), (page, ("page", 1)),
                           (page, ("page", page)), (("page", "red", 0), ("page", 0, "red")), (None, None)):
            seen = (("told", one), ("told", other))
            self.check_seen((None, one), (None, other), ("call", "show"), seen, seen)

    def test_what_is_passed(self):
        seen = {"equal": ("told", ("thing", 7)), "same": ("told", ("thing", 7, 4))}
        self.check_seen((None, None), (None, None), ("call", "give", (7, 4)), (seen["equal"],) * 2, (seen["same"],) * 2)
        big = 10 ** 100 - 1
        self.check_seen((None, None), (None, None), ("call", "give", (big, big)), (("told", ("thing", big)),) * 2,
                        (("told", ("thing", big, big)),) * 2)
        for value in (None, "red"):
            self.check_seen((None, None), (None, None), ("call", "give", value), (("told", value),) * 2,
                            (("told", value),) * 2)
        self.check_seen(("red", None), ("blue", None), ("call", "noting"), (NONE, NONE), (NONE, NONE))

    def test_a_refusal_is_seen(self):
        one, other = shape_in("def m():", "    return red"), shape_in("def m():", "    refuse red")
        pair = Pair(Life(one), Life(other))
        self.check_do(pair, ("call", "m"), (("told", "red"), ("refused", "red")))
        pair = Pair(Life(other), Life(other))
        self.check_do(pair, ("call", "m"), (("refused", "red"), ("refused", "red")))

    def test_results_are_tuples(self):
        pair = Pair(Life(self.SHAPE), Life(self.SHAPE))
        for step in (("call", "tell"), ("call", "give", (3, 3)), ("call", "show")):
            told = pair.do(step)
            self.assertIs(tuple, told.__class__)
            self.assertEqual([tuple, tuple], [report.__class__ for report in told])
        for value in (pair.joint, pair.joint[0], pair.states, pair.states[0], pair.states[1][0]):
            self.assertIs(tuple, value.__class__)


class PartTest(StepsCase):
    ONE = shape_in("a = none", "n = none", "def put(x):", "    self.n = self.a", "    self.a = x", "    return self.n",
                   "enter on(x):", "    self.n = x", "    if x is red:", "        refuse red", "leave off():",
                   "    self.n = none", "    return self.a")
    OTHER = shape_in("a = none", "n = none", "def put(x):", "    self.a = x", "    self.n = red", "    return none",
                     "enter on(x):", "    self.n = red", "leave off():", "    return self.n")

    def test_objects_that_a_call_parts_stay_as_they_are(self):
        pair = Pair(Life(self.ONE), Life(self.OTHER))
        self.check_do(pair, ("call", "put", (5, 5)), (NONE, NONE))
        states = pair.states
        self.assertEqual(((((5, 5), None), False), (((5, 5), "red"), False)), states)
        joint = pair.joint
        for _ in range(3):
            self.check_do(pair, ("call", "put", (6, 6)), (("told", ("thing", 5)), ("told", None)))
            self.assertEqual((states, joint), (pair.states, pair.joint))
        # One object would be within, the other one refuses.
        self.check_do(pair, ("call", "on", "red"), (("refused", "red"), ("told", None)))
        self.assertEqual((states, joint), (pair.states, pair.joint))
        self.check_stays(NotNow, {"name": "off"}, pair, ("call", "off"))
        self.check_do(pair, ("call", "on", None), (NONE, NONE))
        self.assertEqual(((((5, 5), None), True), (((5, 5), "red"), True)), pair.states)
        joint = pair.joint
        self.check_do(pair, ("call", "off"), (("told", ("thing", 5)), ("told", "red")))
        self.assertEqual(joint, pair.joint)
        self.assertTrue(pair.joint[2])

    def test_by_equal_and_by_same(self):
        shape = shape_in("a = none", "n = none", "def put(x):", "    self.a = x", "def get():", "    self.n = self.a",
                         "    return self.a")
        lives = (Life(shape), Life(shape, Passage(shape, save=("a",))))
        for look, wanted, values in (
            ("equal", (("told", ("thing", 8)),) * 2, (((8, 2), (8, 2)), ((8, -1), (8, -1)))),
            ("same", (("told", ("thing", 8, 2)), ("told", ("thing", 8, -1))), (((8, 2), None), ((8, -1), None))),
        ):
            pair = Pair(*lives, callers=Callers(look=look))
            pair.play((("call", "put", (8, 2)), PASS))
            self.check_do(pair, ("call", "get"), wanted)
            self.assertEqual(tuple((one, False) for one in values), pair.states)

    def test_play_goes_on_behind_a_call_that_parts(self):
        pair = Pair(Life(self.ONE), Life(self.OTHER))
        history = (("call", "put", (5, 5)), ("call", "put", (6, 6)), ("call", "on", "red"), ("call", "on", None))
        told = pair.play(history)
        self.assertEqual([(NONE, NONE), (("told", ("thing", 5)), NONE), (("refused", "red"), NONE), (NONE, NONE)], told)
        self.assertEqual(((((5, 5), None), True), (((5, 5), "red"), True)), pair.states)


class AnyStepTest(StepsCase):
    SHAPE = shape_in("a = none", "def put(x):", "    self.a = x", "def both(x, y):", "def get():", "    return self.a",
                     "enter on():", "leave off():")

    def test_bad_steps(self):
        life = Life(self.SHAPE, Passage(self.SHAPE))
        wrong = list(ODD) + [("call", odd) for odd in ODD] + [("call", "put", odd) for odd in ODD if odd != (0, 0)]
        wrong += [("call", "both", None, odd) for odd in ODD if odd != (0, 0)] + [("pass", odd) for odd in ODD]
        wrong += [(odd,) for odd in ODD] + [(odd, "get") for odd in ODD] + [("call", "get", odd) for odd in ODD]
        wrong += [
            None, (), ("call",), ["pass"], "pass", ("PASS",), ("pass", None), ("pass", "pass"), (PASS,), ("told", None),
            ("call", "put"), ("call", "put", None, None), ("call", "get", None), ("call", "both", None),
            ("call", "both", None, None, None), ("call", "nope"), ("call", "Get"), ("call", ["get"]), ["call", "get"],
            ("call", "put", [0, 0]), ("call", "put", (0, -1)), ("call", "put", (-1, 0)), ("call", "put", (0, True)),
            ("call", "put", (False, 0)), ("call", "put", "green"), ("call", "put", ("page", 0)), ("call", "put", (0,)),
            ("call", "put", (0, 0, 0)), ("call", "put", True), ("call", "put", 0), (("call", "get"),),
            ("call", ("get",)), ("get",), ("call", "put", "self"), ("call", None), ("call", "both", (0, 0), (0, -1)),
        ]
        for callers in (None, Callers(times=0, methods=())):
            pair = Pair(life, life, callers=callers)
            wrong.append(pair)
            for step in wrong:
                self.check_stays(BadStep, {"given": step}, pair, step)
                self.check_raises(BadStep, {"given": step}, pair.play, (("call", "on"), step, ("call", "nope")))
                self.assertEqual((((None,), False),) * 2, pair.states)

    def test_not_now(self):
        pair = Pair(Life(self.SHAPE), Life(self.SHAPE))
        self.check_stays(NotNow, {"name": "pass"}, pair, PASS)
        self.check_stays(NotNow, {"name": "off"}, pair, ("call", "off"))
        pair.do(("call", "on"))
        self.check_stays(NotNow, {"name": "on"}, pair, ("call", "on"))
        self.check_stays(NotNow, {"name": "pass"}, pair, PASS)
        # What is no step is told first.
        self.check_stays(BadStep, {"given": ("call", "on", None)}, pair, ("call", "on", None))
        self.check_do(pair, ("call", "off"), (NONE, NONE))

    def test_methods_and_fresh_do_not_restrict_do(self):
        life = Life(self.SHAPE)
        pair = Pair(life, life, callers=Callers(methods=("nope",), fresh=True, look="same"))
        self.check_steps(pair, [])
        self.check_do(pair, ("call", "put", (3, 4)), (NONE, NONE))
        self.check_do(pair, ("call", "both", (3, 4), (3, 4)), (NONE, NONE))
        self.check_do(pair, ("call", "put", (3, 4)), (NONE, NONE))
        self.check_do(pair, ("call", "get"), (("told", ("thing", 3, 4)),) * 2)
        self.check_do(pair, ("call", "on"), (NONE, NONE))

    def test_any_own_things(self):
        pair = Pair(Life(self.SHAPE), Life(self.SHAPE))
        for thing in ((0, 0), (99, 3), (10 ** 100 - 1, 10 ** 100 - 1), (5, 0), "blue", None):
            self.check_do(pair, ("call", "put", thing), (NONE, NONE))
            self.assertEqual((((thing,), False),) * 2, pair.states)


class PlayTest(StepsCase):
    SHAPE = AnyStepTest.SHAPE

    def test_a_new_list(self):
        pair = Pair(Life(self.SHAPE), Life(self.SHAPE, Passage(self.SHAPE)))
        told = pair.play(history=(("call", "put", (2, 2)), ("call", "get"), PASS, ("call", "get")))
        self.assertIs(list, told.__class__)
        thing = ("told", ("thing", 2))
        self.assertEqual(repr([(NONE, NONE), (thing, thing), None, (thing, NONE)]), repr(told))
        self.assertEqual([], pair.play(()))
        self.assertIsNot(pair.play(()), pair.play(()))
        self.assertEqual(((((2, 2),), False), ((None,), False)), pair.states)
        self.assertEqual(((((0, 0),), False), ((None,), False), False, None), pair.joint)

    def test_as_do_step_by_step(self):
        history = (("call", "put", (2, 2)), PASS, ("call", "on"), ("call", "put", None), ("call", "off"), PASS,
                   ("call", "both", (1, 1), (1, 1)))
        one, other = [Pair(Life(self.SHAPE), Life(self.SHAPE, Passage(self.SHAPE, save=("a",)))) for _ in range(2)]
        self.assertEqual([one.do(step) for step in history], other.play(history))
        self.assertEqual((one.states, one.joint), (other.states, other.joint))

    def test_as_before_where_a_step_raises(self):
        pair = Pair(Life(self.SHAPE), Life(self.SHAPE, Passage(self.SHAPE)), callers=Callers(times=2))
        good = (("call", "put", (2, 2)), PASS, ("call", "on"))
        for history, error, told in (
            (good + (PASS,), NotNow, {"name": "pass"}), (good + (("call", "on"),), NotNow, {"name": "on"}),
            (good + (("call", "nope"),), BadStep, {"given": ("call", "nope")}),
            (good + (3, PASS), BadStep, {"given": 3}), ((("call", "off"), 3), NotNow, {"name": "off"}),
            ((PASS, PASS, PASS), NotNow, {"name": "pass"}),
        ):
            before = repr((pair.joint, pair.states))
            self.check_raises(error, told, pair.play, history)
            self.assertEqual(before, repr((pair.joint, pair.states)))
        pair.play(good)
        self.assertEqual(1, pair.joint[3])


if __name__ == "__main__":
    unittest.main()
