"""Lives (23), pairs that are set up, and joint worlds (29, 30)."""

import itertools
import unittest

from carriedfields.comparing import compare, is_paper
from carriedfields.errors import BadJoint, BadPassage, UnlikeFaces
from carriedfields.pairs import Life, Pair
from carriedfields.passages import Passage
from carriedfields.worlds import Callers
from samples import ODD, Case, shape_in
from twins import Twins

METHODS = ("def put(x):", "    self.a = x", "def both(x, y):", "    self.a = y", "def get():", "    return self.a")
BOX = shape_in("a = none", "d: 2", *METHODS)
OLD = shape_in("a = none", "b = red", *METHODS)
NEW = shape_in("a = none", *METHODS)
STAY = Passage(OLD, keep=("a", "b"))
MOVE = Passage(OLD, save=("a",), into=NEW)
BACK = Passage(NEW, keep=("a",), into=OLD)


class LifeTest(Case):
    def test_attributes(self):
        for route in (None, STAY, MOVE, MOVE >> BACK, STAY >> STAY, STAY >> STAY >> MOVE, Passage.of(OLD)):
            for life in (Life(OLD, route), Life(shape=OLD, route=route)):
                self.assertIs(OLD, life.shape)
                self.assertIs(route, life.route)
                self.assertLessEqual({"shape", "route"}, set(vars(life)))
        self.assertIsNone(Life(OLD).route)

    def test_routes_from_another_shape(self):
        others = [
            NEW, BOX, shape_in("a = none", "b = none", *METHODS),
            shape_in("a = none", "b = red", *METHODS, marks="blue red"),
            shape_in("a = none", "b = red", *METHODS, "class heir(k):", name="heir"),
        ]
        for shape in others:
            for route in (STAY, MOVE, MOVE >> BACK, STAY >> MOVE):
                self.check_raises(BadPassage, {"part": "shape"}, Life, shape, route)
                self.check_raises(BadPassage, {"part": "shape"}, Life, shape=shape, route=route)
        # The route may lead to the shape, but it must begin there.
        self.check_raises(BadPassage, {"part": "shape"}, Life, NEW, MOVE)
        self.check_raises(BadPassage, {"part": "shape"}, Life, OLD, BACK)

    def test_an_equal_shape_will_do(self):
        again = shape_in("a = none", "b = red", *METHODS)
        self.assertIsNot(OLD, again)
        self.assertIs(again, Life(again, STAY).shape)
        self.assertIs(again, Life(again, MOVE >> BACK).shape)

    def test_equality(self):
        routes = [None, STAY, MOVE, MOVE >> BACK, STAY >> STAY, Passage(OLD), Passage(OLD, into=NEW)]
        lives = [Life(OLD, route) for route in routes] + [Life(NEW), Life(NEW, BACK), Life(BOX)]
        self.check_all_different(lives)
        for life in lives:
            self.check_equal(life, Life(life.shape, life.route))
            self.check_foreign(life)
            self.check_unequal(life, life.shape)
            self.check_unequal(life, (life.shape, life.route))
            if life.route is not None:
                self.check_unequal(life, life.route)
        again = shape_in("a = none", "b = red", *METHODS)
        self.check_equal(Life(OLD, STAY), Life(again, Passage(again, keep=("b", "a"))))
        self.check_equal(Life(OLD, STAY >> STAY), Life(again, STAY >> Passage(again, keep=("b", "a"))))


class FacesTest(Case):
    LINES = ("def put(x):", "def get():")
    UNLIKE = (
        shape_in("def put(x):", "def got():"), shape_in("def put():", "def get():"), shape_in("def put(x):"),
        shape_in("def put(x, y):", "def get():"), shape_in("def put(x):", "def get() -> 1:"),
        shape_in("enter put(x):", "def get():"), shape_in("leave put(x):", "def get():"),
        shape_in("def put(x):", "def get():", marks="red"), shape_in("def put(x):", "def get():", marks="red green"),
        shape_in("def put(x):", "def get():", marks="red blue green"), shape_in(),
        shape_in("def put(x):", "def get():", "def more():"),
    )
    LIKE = (
        shape_in("def put(x):", "def get():"), shape_in("def get():", "def put(x):"),
        shape_in("def get():", "    return red", "def put(y):", "    refuse y", marks="blue red"),
        shape_in("A = red", "a = none", "d: 3", "def put(x):", "def get():", "carry:", "    save a"),
        shape_in("def put(x):", "class h(k):", "def get():", name="h"),
    )

    def test_unlike_faces(self):
        shape = shape_in(*self.LINES)
        for one, other in itertools.permutations((shape, *self.UNLIKE), 2):
            lives = (Life(one), Life(other))
            self.check_raises(UnlikeFaces, {}, Pair, *lives)
            self.check_raises(UnlikeFaces, {}, compare, *lives, callers=Callers(methods=()))
            # The faces are looked at ahead of all else.
            for odd in (None, 3, (((), False), ((), False), False, None)):
                self.check_raises(UnlikeFaces, {}, Pair.set_up, *lives, odd)
                self.check_raises(UnlikeFaces, {}, compare, *lives, start=odd, most=1)
                self.check_raises(UnlikeFaces, {}, is_paper, *lives, odd, start=odd)
        passage = Passage(shape)
        self.check_raises(UnlikeFaces, {}, Pair, Life(shape, passage), Life(self.UNLIKE[0], Passage(self.UNLIKE[0])))

    def test_like_faces(self):
        for one, other in itertools.product(self.LIKE, repeat=2):
            pair = Pair(Life(one), Life(other))
            self.assertEqual(((one.firsts, False), (other.firsts, False)), pair.states)
            self.assertEqual(((one.firsts, False), (other.firsts, False), False, None), pair.joint)


class SetUpTest(Case):
    def check_good(self, one, other, joint, **named):
        callers = Callers(**named)
        pair = Pair.set_up(one, other, joint, callers=callers)
        self.assertIs(Pair, pair.__class__)
        self.assertEqual(repr(joint), repr(pair.joint))
        (values, _), (others, _), within, _ = joint
        self.assertEqual(repr(((values, within), (others, within))), repr(pair.states))
        self.assertTrue(Twins(one, other, callers).is_joint(joint))
        self.assertIn(compare(one, other, callers=callers, start=joint, most=2000)[0], ("alike", "parted"))
        return pair

    def check_wrong(self, one, other, joint, **named):
        callers = Callers(**named)
        self.check_raises(BadJoint, {"given": joint}, Pair.set_up, one, other, joint, callers=callers)
        if joint is not None:
            self.check_raises(BadJoint, {"given": joint}, compare, one, other, callers=callers, start=joint, most=1)
            self.check_raises(BadJoint, {"given": joint}, is_paper, one, other, 3, callers=callers, start=joint)

    def test_new_objects(self):
        for one, other in itertools.product((Life(OLD), Life(OLD, MOVE), Life(NEW), Life(BOX)), repeat=2):
            for times in (None, 0, 1, 10 ** 100 - 1):
                pair = Pair(one, other, callers=Callers(times=times))
                joint = ((one.shape.firsts, False), (other.shape.firsts, False), False, times)
                self.assertEqual(repr(joint), repr(pair.joint))
                self.assertEqual(((one.shape.firsts, False), (other.shape.firsts, False)), pair.states)
                self.check_good(one, other, joint, times=times)
        self.assertEqual(repr(Pair(Life(OLD), Life(NEW)).joint), repr(Pair(one=Life(OLD), other=Life(NEW)).joint))
        pair = Pair.set_up(one=Life(NEW), other=Life(NEW), joint=(((None,), False), ((None,), False), False, None))
        self.assertIsNone(pair.joint[3])

    def test_joint_worlds_that_are_not_reachable(self):
        life = Life(BOX)
        for values, others in (
            ((None, ("page", None)), ("red", None)), (((0, 0), ("page", 0)), ((0, 1), None)),
            (((0, -1), ("page", 0)), ((0, -1), ("leaf", ("page", 1, "blue"), 0))),
            ((None, ("page", ("page", 0, 1), 0)), ((1, 0), ("page", ("page", 2)))), (("blue", None), (None, None)),
            (((0, 0), None), ((0, -1), ("page", 0))),
        ):
            for within in (False, True):
                self.check_good(life, life, ((values, False), (others, False), within, None))

    def test_contents_and_numbers_are_common(self):
        life = Life(NEW)
        good = [
            ((0, 0), (0, 0)), ((0, 0), (0, 1)), ((0, 0), (1, 0)), ((0, -1), (0, 0)), ((0, 0), (0, -1)),
            ((0, -1), (0, -1)), ((0, -1), (1, -1)), ((0, -1), (1, 0)), (None, (0, 0)), (None, (0, -1)),
        ]
        for one, other in good:
            self.check_good(life, life, (((one,), False), ((other,), False), False, None))
        # Each of these values is canonical for its object alone, or for the second one if all were met there.
        for one, other in (
            ((0, 0), (0, 2)), ((0, 1), (0, 0)), ((1, 0), (0, 0)), ((1, 0), (1, 0)), (None, (1, 0)), (None, (0, 1)),
            ((0, -1), (0, -2)), ((0, -2), (0, -1)), ((0, -1), (0, 1)), ((0, 0), (2, 0)), ((0, 0), (1, 1)),
            ((0, 0), (0, -2)), ((0, 0), (1, -2)), (None, (0, -2)), ((0, 1), (0, 1)), ((0, -2), None),
        ):
            self.check_wrong(life, life, (((one,), False), ((other,), False), False, None))
        twice = Life(shape_in("a = none", "b = none", "d: 1", *METHODS))
        for values, others, is_right in (
            (((0, -1), (0, -2), None), ((0, -1), (0, -2), None), True),
            (((0, -1), (0, 0), None), ((0, 0), (0, -1), None), True),
            (((0, -1), (0, -1), None), ((0, -1), (1, -1), ("page", 2, 0)), True),
            (((0, -1), (0, -2), None), ((0, -3), (0, -4), None), False),
            (((0, -2), (0, -1), None), ((0, -1), (0, -2), None), False),
            (((0, -1), (0, -2), None), ((0, -2), (0, -1), None), False),
            (((0, 0), (0, 1), None), ((0, 0), (0, 1), None), True),
            (((0, 0), (0, 1), None), ((0, 1), (0, 0), None), True),
            (((0, 0), (0, 1), None), ((0, 3), (0, 2), None), False),
            (((0, 0), None, ("page", 1)), ((1, 0), (2, 0), None), True),
            (((0, 0), None, ("page", 1)), ((2, 0), (1, 0), None), True),
            (((0, 0), None, ("page", 1)), ((3, 0), (2, 0), None), False),
            (((0, 0), None, ("page", 2, 1)), ((1, 0), (2, 0), None), False),
            (((0, 0), None, None), ((1, 0), (1, 1), ("page", 2, 3)), True),
            (((0, 0), None, None), ((0, 0), (0, 1), ("page", 2, 3)), False),
        ):
            check = self.check_good if is_right else self.check_wrong
            check(twice, twice, ((values, False), (others, False), False, None))

    def test_moved_objects(self):
        values = {False: ((0, 0), None), True: ((0, 0),)}
        for one, other in itertools.product((Life(OLD), Life(OLD, MOVE), Life(OLD, STAY), Life(OLD, STAY >> MOVE),
                                             Life(OLD, MOVE >> BACK)), repeat=2):
            for moved, gone in itertools.product((False, True), repeat=2):
                may = [life.route is not None and life.route.into == NEW for life in (one, other)]
                joint = ((values[moved], moved), (values[gone], gone), False, 1)
                is_right = (may[0] or not moved) and (may[1] or not gone)
                check = self.check_good if is_right else self.check_wrong
                check(one, other, joint, times=2)
                # The values are those of the other kind.
                for wrong in (
                    ((values[not moved], moved), (values[gone], gone), False, 1),
                    ((values[moved], moved), (values[not gone], gone), False, 1),
                ):
                    self.check_wrong(one, other, wrong, times=2)

    def test_within_without_a_role(self):
        pair = self.check_good(Life(NEW, BACK), Life(NEW), (((None,), False), (("red",), False), True, None))
        self.assertEqual((((None,), True), (("red",), True)), pair.states)
        self.assertNotIn(("pass",), list(pair.steps()))
        self.assertEqual((("told", None), ("told", None)), pair.do(("call", "put", None)))
        self.assertEqual((((None,), False), ((None,), False), True, None), pair.joint)

    def test_passages_that_are_left(self):
        for route in (None, Passage(NEW)):
            for times, good, wrong in (
                (None, [None], [0, 1, -1, 2, False, True, "none", (), (None,), [None]]),
                (0, [0], [None, 1, -1, False, "0", (0,), [0]]),
                (1, [0, 1], [None, 2, -1, False, True, (1,)]),
                (3, [0, 1, 2, 3], [None, 4, -1, 10 ** 99, False, True]),
                (10 ** 99, [0, 1, 10 ** 99 - 1, 10 ** 99], [None, 10 ** 99 + 1, -10 ** 99]),
            ):
                one, other = Life(NEW), Life(NEW, route)
                sides = (((None,), False), (("red",), False))
                for left in good:
                    self.check_good(one, other, (*sides, False, left), times=times)
                for left in wrong:
                    self.check_wrong(one, other, (*sides, False, left), times=times)

    def test_any_value(self):
        one, other = Life(BOX), Life(NEW, BACK)
        side, twin = (((0, 0), ("page", 0)), False), (((0, -1),), False)
        for times in (None, 2):
            good = (side, twin, False, times)
            self.check_good(one, other, good, times=times)
            self.check_good(one, other, (side, (((0, -1), "red"), True), False, times), times=times)
            wrong = [
                None, good[:3], good + (None,), (side, twin), (twin, side, False, times), list(good), (),
                (list(side), twin, False, times), (side, list(twin), False, times), (good,),
                (side, twin, 0, times), (side, twin, 1, times), (side, twin, None, times), (side, twin, "", times),
                (side[:1], twin, False, times), (side + (False,), twin, False, times), (side[0], twin, False, times),
                ((side[0], 0), twin, False, times), ((side[0], None), twin, False, times),
                (side, (twin[0], 0), False, times), (side, (twin[0], True), False, times),
                ((side[0], True), twin, False, times), (((None,), False), twin, False, times),
                (((None, None, None), False), twin, False, times), (side, ((None, None), False), False, times),
                ((["red", None], False), twin, False, times), ((("green", None), False), twin, False, times),
                (((("page", 0), None), False), twin, False, times), (((None, (0, 0)), False), twin, False, times),
                (((None, "red"), False), twin, False, times), ((((0, False), None), False), twin, False, times),
                ((((False, 0), None), False), twin, False, times), ((([0, 0], None), False), twin, False, times),
                (((None, ("page", False)), False), twin, False, times),
                (((None, ["page", 0]), False), twin, False, times),
                (((None, ("page", ("page", ("page", 0)))), False), twin, False, times),
                (((None, ("page", "green")), False), twin, False, times),
                (((None, ("none", None)), False), twin, False, times),
                (((None, ("page", -1)), False), twin, False, times),
                (((None, ("page", (0, 0))), False), twin, False, times),
                ((((-1, 0), None), False), twin, False, times), (((None, ("page",)), False), twin, False, times),
                (((None, ("page", None, None, None)), False), twin, False, times), Pair(one, other), one, side,
                (one, other), (side, side, False, times),
            ]
            for joint in [*wrong, *ODD]:
                self.check_wrong(one, other, joint, times=times)
            for odd in ODD:
                if odd is not True and odd is not False:
                    self.check_wrong(one, other, (side, twin, odd, times), times=times)
                    self.check_wrong(one, other, ((side[0], odd), twin, False, times), times=times)
                    self.check_wrong(one, other, (side, (twin[0], odd), False, times), times=times)
                if odd not in (0, 1):
                    self.check_wrong(one, other, (side, twin, False, odd), times=times)
                self.check_wrong(one, other, ((odd, False), twin, False, times), times=times)
                self.check_wrong(one, other, (odd, twin, False, times), times=times)
                self.check_wrong(one, other, (side, odd, False, times), times=times)
                if odd not in ((0, 0), (3, -1)):
                    self.check_wrong(one, other, (side, ((odd,), False), False, times), times=times)
                    self.check_wrong(one, other, (((odd, None), False), twin, False, times), times=times)
                self.check_wrong(one, other, (((None, odd), False), twin, False, times), times=times)

    def test_what_a_pair_gave(self):
        one, other = Life(OLD, STAY), Life(OLD, MOVE)
        pair = Pair(one, other)
        for step in (("call", "both", (7, 2), (7, 5)), ("pass",), ("call", "put", (9, 9)), ("call", "get")):
            pair.do(step)
            joint = pair.joint
            self.check_good(one, other, joint)
            self.assertEqual(repr(joint), repr(Pair.set_up(one, other, joint).joint))
            for at in range(4):
                self.check_wrong(one, other, joint[:at] + joint[at + 1:])
                self.check_wrong(one, other, joint[:at] + ([joint[at]],) + joint[at + 1:])


class JointTest(Case):
    def test_renaming(self):
        shape = shape_in("a = none", "b = none", "d: 1", "def put(x, y):", "    self.a = x", "    self.b = y",
                         "def make():", "    self.d = page(self.b)", "def drop():", "    self.a = none")
        save = Passage(shape, save=("a",), keep=("b", "d"))
        pair = Pair(Life(shape), Life(shape, save), callers=Callers(times=3))
        for step, states, joint in (
            (("call", "put", (7, 3), (5, 2)), (((7, 3), (5, 2), None),) * 2, (((0, 0), (1, 0), None),) * 2),
            (("call", "make"), (((7, 3), (5, 2), ("page", 5)),) * 2, (((0, 0), (1, 0), ("page", 1)),) * 2),
            (("pass",), (((7, 3), (5, 2), ("page", 5)), ((7, -1), (5, 2), ("page", 5))),
             (((0, 0), (1, 0), ("page", 1)), ((0, -1), (1, 0), ("page", 1)))),
            (("pass",), (((7, 3), (5, 2), ("page", 5)), ((7, -1), (5, 2), ("page", 5))),
             (((0, 0), (1, 0), ("page", 1)), ((0, -1), (1, 0), ("page", 1)))),
            (("call", "drop"), ((None, (5, 2), ("page", 5)),) * 2, ((None, (0, 0), ("page", 0)),) * 2),
            (("call", "put", (5, 3), (5, 2)), (((5, 3), (5, 2), ("page", 5)),) * 2,
             (((0, 0), (0, 1), ("page", 0)),) * 2),
            (("pass",), (((5, 3), (5, 2), ("page", 5)), ((5, -1), (5, 2), ("page", 5))),
             (((0, 0), (0, 1), ("page", 0)), ((0, -1), (0, 1), ("page", 0)))),
            (("call", "put", None, (9, 0)), ((None, (9, 0), ("page", 5)),) * 2, ((None, (0, 0), ("page", 1)),) * 2),
        ):
            left = pair.joint[3] - (step == ("pass",))
            pair.do(step)
            self.assertEqual(repr(tuple((values, False) for values in states)), repr(pair.states))
            self.assertEqual(repr((*[(values, False) for values in joint], False, left)), repr(pair.joint))

    def test_copies_of_both_are_numbered_apart(self):
        shape = shape_in("a = none", "b = none", "def put(x, y):", "    self.a = x", "    self.b = y", "def swap():",
                         "    w = self.a", "    self.a = self.b", "    self.b = w")
        each = Passage(shape, save=("a", "b"), memo=False)
        one = Passage(shape, save=("a",), keep=("b",))
        pair = Pair(Life(shape, each), Life(shape, one))
        pair.play((("call", "put", (4, 4), (4, 4)), ("pass",)))
        self.assertEqual(((((4, -1), (4, -2)), False), (((4, -1), (4, 4)), False)), pair.states)
        self.assertEqual(((((0, -1), (0, -2)), False), (((0, -1), (0, 0)), False), False, None), pair.joint)
        pair.do(("call", "swap"))
        self.assertEqual(((((4, -2), (4, -1)), False), (((4, 4), (4, -1)), False)), pair.states)
        self.assertEqual(((((0, -1), (0, -2)), False), (((0, 0), (0, -1)), False), False, None), pair.joint)
        pair.do(("pass",))
        self.assertEqual(((((4, -1), (4, -2)), False), (((4, -2), (4, -1)), False)), pair.states)
        self.assertEqual(((((0, -1), (0, -2)), False), (((0, -1), (0, -2)), False), False, None), pair.joint)

    def test_moved_and_within(self):
        lines = ("a = none", "enter open(x):", "    self.a = x", "leave shut():", "    self.a = none")
        shape, goal = shape_in(*lines), shape_in("b = red", *lines)
        move = Passage(shape, keep=("a",), into=goal)
        pair = Pair(Life(shape), Life(shape, move), callers=Callers(times=2))
        expected = [
            (((None,), False), ((None,), False), False, 2), ((((0, 0),), False), (((0, 0),), False), True, 2),
            (((None,), False), ((None,), False), False, 2), (((None,), False), ((None, "red"), True), False, 1),
            ((((0, 0),), False), (((0, 0), "red"), True), True, 1),
        ]
        self.assertEqual(expected[0], pair.joint)
        steps = (("call", "open", (6, 6)), ("call", "shut"), ("pass",), ("call", "open", (0, 1)))
        for step, joint in zip(steps, expected[1:]):
            pair.do(step)
            self.assertEqual(repr(joint), repr(pair.joint))
            self.assertEqual([joint[2]] * 2, [state[1] for state in pair.states])

    def test_pairs_are_equal_to_nothing_else(self):
        pair = Pair(Life(NEW), Life(NEW))
        self.check_foreign(pair)
        for other in (pair.joint, pair.states, Life(NEW), (Life(NEW), Life(NEW))):
            self.check_unequal(pair, other)
        self.check_equal(pair, pair)


if __name__ == "__main__":
    unittest.main()
