"""What is_paper accepts (31): right certificates, whoever wrote them, and nothing else."""

import itertools
import unittest

from carriedfields.comparing import compare, is_paper
from carriedfields.errors import BadJoint, UnlikeFaces
from carriedfields.pairs import Life, Pair
from carriedfields.passages import Passage
from carriedfields.worlds import Callers
from samples import ODD, Case, shape_in
from twins import Twins

BOX = shape_in("item = none", "def put(x):", "    self.item = x", "def get():", "    return self.item", marks="")
SAVE = Passage(BOX, save=("item",))
DROP = Passage(BOX)
PASS = ("pass",)
GET = ("call", "get")


def put(thing):
    return ("call", "put", thing)


def joint(one, other, left=None, within=False, moved=False, gone=False):
    """A joint world of objects with one field."""
    return (((one,), moved), ((other,), gone), within, left)


class PaperCase(Case):
    ONE = Life(BOX)
    OTHER = Life(BOX, SAVE)

    def check_paper(self, is_right, paper, one=None, other=None, start=None, **named):
        one, other = one or self.ONE, other or self.OTHER
        callers = Callers(**named)
        self.assertIs(is_right, is_paper(one, other, paper, callers=callers, start=start), paper)
        self.assertIs(is_right, Twins(one, other, callers).is_paper(paper, start))


class AnyValueTest(PaperCase):
    def test_any_value(self):
        good = compare(self.ONE, self.OTHER)
        self.check_paper(True, good)
        history = (put((4, 1)), PASS, GET)
        for paper in [
            *ODD, None, (), good[1], good[:1], good + (None,), list(good), (good[0], list(good[1])), (good[1], good[0]),
            ("parted", good[1]), ("Alike", good[1]), (("alike",), good[1]), ("alike", None), ("alike", "alike"),
            ("alike", ()), ("alike", 3), (None, good[1]), (True, good[1]), ("alike", good[1], ()), (good,),
            ("parted", None), ("parted", ()), ("parted", []), ("parted", "pass"), ("parted", 3), ("", good[1]),
            history, ["alike", good[1]], good[1] + history, Pair(self.ONE, self.OTHER), compare,
        ]:
            self.check_paper(False, paper)
        for odd in ODD:
            self.check_paper(False, ("alike", odd))
            self.check_paper(False, ("parted", odd))
            self.check_paper(False, (odd, good[1]))
            self.check_paper(False, ("alike", good[1] + (odd,)))
            self.check_paper(False, ("alike", (odd,) + good[1]))
            self.check_paper(False, ("parted", (odd,)))
            self.check_paper(True, ("parted", history), other=Life(BOX, DROP))
            self.check_paper(False, ("parted", (odd,) + history), other=Life(BOX, DROP))
            self.check_paper(False, ("parted", history + (odd,)), other=Life(BOX, DROP))
            self.check_paper(False, ("parted", history[:2] + (odd,)), other=Life(BOX, DROP))

    def test_arguments(self):
        good = compare(self.ONE, self.OTHER)
        self.assertIs(True, is_paper(self.ONE, self.OTHER, good))
        self.assertIs(True, is_paper(one=self.ONE, other=self.OTHER, thing=good, callers=None, start=None))
        self.assertIs(True, is_paper(self.ONE, self.OTHER, good, start=joint(None, None)))
        self.assertIs(False, is_paper(self.ONE, self.OTHER, good, callers=Callers(look="same")))
        self.assertIs(False, is_paper(self.ONE, self.OTHER, good, callers=Callers(times=1)))

    def test_errors(self):
        good = compare(self.ONE, self.OTHER)
        unlike = Life(shape_in("def get():", marks=""))
        for thing in (good, None, 3):
            self.check_raises(UnlikeFaces, {}, is_paper, self.ONE, unlike, thing)
            self.check_raises(UnlikeFaces, {}, is_paper, self.ONE, unlike, thing, start=3)
            for start in (0, False, (), joint(None, None, 0), joint((0, 1), None), joint(None, None, gone=True)):
                self.check_raises(BadJoint, {"given": start}, is_paper, self.ONE, self.OTHER, thing, start=start)

    def test_nothing_is_changed(self):
        paper = ("alike", [joint(None, None)])
        before = repr(paper)
        self.check_paper(False, paper)
        self.assertEqual(before, repr(paper))


class AlikeTest(PaperCase):
    GOOD = (joint(None, None), joint((0, 0), (0, 0)), joint((0, 0), (0, -1)))

    def test_in_any_order_and_twice(self):
        for joints in itertools.permutations(self.GOOD):
            self.check_paper(True, ("alike", joints))
            self.check_paper(True, ("alike", joints + joints))
            self.check_paper(True, ("alike", joints + joints[:1] * 5))

    def test_joint_worlds_that_are_missing(self):
        for joints in itertools.chain(itertools.combinations(self.GOOD, 1), itertools.combinations(self.GOOD, 2)):
            self.check_paper(False, ("alike", joints))
            self.check_paper(False, ("alike", joints * 2))

    def test_more_joint_worlds(self):
        # A closed set of joint worlds that are not reachable: the second object has its copy, and the first one, too.
        more = joint((0, -1), (0, -1))
        self.check_paper(True, ("alike", self.GOOD + (more,)))
        self.check_paper(True, ("alike", (more,) + self.GOOD))
        self.check_paper(True, ("alike", self.GOOD + (more, joint((0, -1), (0, 0)))))
        self.check_paper(True, ("alike", self.GOOD + (joint((0, 0), (0, 1)), more)))
        # A pass leads from this one to a joint world that is not there.
        self.check_paper(False, ("alike", self.GOOD + (joint((0, -1), (0, 0)),)))
        self.check_paper(True, ("alike", self.GOOD + (joint((0, 0), (0, 1)),)))
        # Within, no pass is possible, but calls lead to others that are within.
        within = tuple(joint(one, other, within=True) for one, other in ((None, None), ((0, 0), (0, 0))))
        self.check_paper(True, ("alike", self.GOOD + within))
        self.check_paper(False, ("alike", self.GOOD + within[:1]))
        self.check_paper(False, ("alike", self.GOOD + within[1:]))
        self.check_paper(False, ("alike", self.GOOD[1:] + within))
        # A call parts at these.
        for bad in (joint(None, (0, 0)), joint((0, 0), None), joint((0, 0), (1, 0)), joint((0, -1), (1, 0)),
                    joint(None, (0, 0), within=True)):
            self.check_paper(False, ("alike", self.GOOD + (bad,)))
            self.check_paper(False, ("alike", (bad,) + self.GOOD))

    def test_entries_that_are_no_joint_worlds(self):
        for bad in (
            joint((0, 1), (0, 1)), joint((1, 0), (1, 0)), joint((0, 0), (0, -2)), joint(None, None, 0),
            joint(None, None, gone=True), joint(None, None, within=0), joint(None, None, moved=0),
            joint(None, None, left=False), joint((False, 0), (0, 0)), joint((0, 0), (0, False)), joint("red", "red"),
            list(joint(None, None)), joint([0, 0], (0, 0)), joint(None, None)[:3], joint(None, None) + (None,),
            (None, None, False, None), joint(("page", 0), ("page", 0)),
            ([(None,), False], ((None,), False), False, None),
        ):
            self.check_paper(False, ("alike", self.GOOD + (bad,)))
            self.check_paper(False, ("alike", (bad,) + self.GOOD))
            self.check_paper(False, ("alike", (self.GOOD[0], bad, *self.GOOD[2:])))
            self.check_paper(False, ("alike", (bad,)))

    def test_truth_values_in_the_place_of_integers(self):
        good = compare(self.ONE, self.OTHER, callers=Callers(times=1))
        self.check_paper(True, good, times=1)
        for at, entry in enumerate(good[1]):
            for wrong in (entry[:3] + (bool(entry[3]),), entry[:2] + (int(entry[2]), entry[3]),
                          ((entry[0][0], int(entry[0][1])), *entry[1:])):
                self.check_paper(False, ("alike", good[1][:at] + (wrong,) + good[1][at + 1:]), times=1)
                self.check_paper(False, ("alike", good[1] + (wrong,)), times=1)

    def test_passages_that_are_left(self):
        for times in (0, 1, 2):
            good = compare(self.ONE, self.OTHER, callers=Callers(times=times))
            self.check_paper(True, good, times=times)
            for other in (None, 0, 1, 2, 3):
                if other != times:
                    self.check_paper(False, good, times=other)
            for at in range(len(good[1])):
                self.check_paper(False, ("alike", good[1][:at] + good[1][at + 1:]), times=times)
        # More passages left than callers have are no joint world, fewer are one.
        base = tuple(joint(*values, 0) for values in ((None, None), ((0, 0), (0, 0))))
        self.check_paper(True, ("alike", base), times=0)
        self.check_paper(False, ("alike", base), times=1)
        self.check_paper(True, ("alike", base), times=1, start=joint(None, None, 0))
        more = tuple(joint(*values, 1) for values in ((None, None), ((0, 0), (0, 0))))
        self.check_paper(False, ("alike", base + more), times=0)
        self.check_paper(False, ("alike", base + more), times=1)
        self.check_paper(True, ("alike", base + more + (joint((0, 0), (0, -1), 0),)), times=1)

    def test_moved_objects(self):
        goal = shape_in("held = none", "def put(x):", "    self.held = x", "def get():", "    return self.held",
                        marks="")
        move = Passage(BOX, save=("held",), into=goal, names=(("held", "item"),))
        other = Life(BOX, move)
        good = compare(self.ONE, other)
        self.assertEqual("alike", good[0])
        self.check_paper(True, good, other=other)
        self.assertEqual(5, len(good[1]))
        for at in range(5):
            self.check_paper(False, ("alike", good[1][:at] + good[1][at + 1:]), other=other)
        self.check_paper(True, ("alike", good[1] + (joint((0, -1), (0, -1), gone=True),)), other=other)
        self.check_paper(False, ("alike", good[1] + (joint((0, -1), (0, -1), moved=True),)), other=other)
        self.check_paper(False, good)
        both = compare(other, other)
        self.check_paper(True, both, one=other, other=other)
        # One object has moved, the other one has not, so no pass is possible any more.
        half = tuple(joint(*values, moved=True) for values in ((None, None), ((0, 0), (0, 0))))
        self.check_paper(True, ("alike", both[1] + half), one=other, other=other)
        self.check_paper(True, ("alike", half), one=other, other=other, start=half[0])
        self.check_paper(False, ("alike", half), one=other, other=other)

    def test_starts(self):
        for start in (joint((0, -1), (0, 0)), joint((0, 0), (0, -1)), joint(None, None, within=True),
                      joint((0, -1), (0, -1), within=True)):
            good = compare(self.ONE, self.OTHER, start=start)
            self.assertEqual("alike", good[0])
            self.check_paper(True, good, start=start)
            self.check_paper(False, ("alike", tuple(one for one in good[1] if one != start)), start=start)
            self.check_paper(joint(None, None) in good[1], good)
        self.check_paper(False, ("alike", self.GOOD), start=joint((0, -1), (0, -1)))
        self.check_paper(True, ("alike", self.GOOD), start=joint((0, 0), (0, -1)))

    def test_callers(self):
        two = self.GOOD[:1] + (joint(None, (0, 0)),)
        self.check_paper(False, ("alike", two))
        self.check_paper(True, ("alike", self.GOOD[:1]), methods=("get",))
        self.check_paper(False, ("alike", two), methods=("get",))
        self.check_paper(True, ("alike", two + (joint(None, (0, -1)),)), methods=())
        self.check_paper(True, ("alike", self.GOOD[:1]), methods=())
        self.check_paper(True, ("alike", self.GOOD), fresh=True)
        self.check_paper(False, ("alike", self.GOOD), look="same")

    def test_for_lives_that_are_parted(self):
        other = Life(BOX, DROP)
        for joints in ((), self.GOOD, self.GOOD + (joint((0, 0), None),), (joint(None, None), joint((0, 0), (0, 0)))):
            self.check_paper(False, ("alike", joints), other=other)


class PartedTest(PaperCase):
    OTHER = Life(BOX, DROP)

    def check_history(self, is_right, *history, **named):
        self.check_paper(is_right, ("parted", history), **named)
        self.check_paper(False, ("parted", list(history)), **named)
        self.check_paper(False, ("alike", history), **named)

    def test_other_words_in_front_of_a_history(self):
        history = (put((4, 1)), PASS, GET)
        for word in [*ODD, None, "alike", "Parted", "parts", ("parted",), ["parted"], "joints", history]:
            self.check_paper(False, (word, history))
            if word != "alike":
                self.check_paper(False, (word, compare(self.ONE, Life(BOX, SAVE))[1]), other=Life(BOX, SAVE))
        self.check_paper(False, ("parted", history, history))
        self.check_paper(False, ["parted", history])
        self.check_paper(False, (history, "parted"))

    def test_shortest_and_longer_histories(self):
        self.check_history(True, put((4, 1)), PASS, GET)
        self.check_history(True, put((0, 0)), PASS, GET)
        self.check_history(True, put((10 ** 100 - 1, 10 ** 100 - 1)), PASS, GET)
        self.check_history(True, GET, put(None), PASS, GET, put((4, 1)), put((4, 1)), GET, PASS, PASS, PASS, GET)
        self.check_history(True, *[GET] * 500, put((4, 1)), *[PASS] * 400, GET)

    def test_histories_that_do_not_part_at_their_end(self):
        self.check_history(False)
        self.check_history(False, put((4, 1)))
        self.check_history(False, put((4, 1)), PASS)
        self.check_history(False, put(None), PASS, GET)
        self.check_history(False, GET)
        self.check_history(False, put((4, 1)), GET)
        self.check_history(False, put((4, 1)), PASS, put((4, 1)), GET)

    def test_histories_that_part_too_early(self):
        self.check_history(False, put((4, 1)), PASS, GET, GET)
        self.check_history(False, put((4, 1)), PASS, GET, put(None), GET)
        self.check_history(False, put((4, 1)), PASS, GET, put((4, 1)), PASS, GET)
        self.check_history(False, put((4, 1)), PASS, GET, PASS)

    def test_steps_that_are_not_possible_when_they_come(self):
        lines = ("a = none", "def put(x):", "    self.a = x", "def get():", "    return self.a", "enter on():",
                 "leave off():", "    return self.a")
        shape = shape_in(*lines)
        named = {"one": Life(shape), "other": Life(shape, Passage(shape))}
        red = put("red")
        on, off = ("call", "on"), ("call", "off")
        self.check_history(True, red, PASS, GET, **named)
        self.check_history(True, red, PASS, on, off, **named)
        self.check_history(True, red, PASS, on, GET, **named)
        self.check_history(False, red, on, PASS, GET, **named)
        self.check_history(False, red, PASS, off, **named)
        self.check_history(False, red, PASS, on, on, off, **named)
        self.check_history(False, off, red, PASS, GET, **named)
        self.check_history(True, on, off, red, PASS, GET, **named)
        self.check_history(False, on, red, PASS, off, **named)
        test = Passage(shape, when=((("self", "a"), "is", "red"),))
        named = {"one": Life(shape), "other": Life(shape, test)}
        self.check_history(True, red, PASS, GET, **named)
        self.check_history(False, put("blue"), PASS, GET, **named)
        self.check_history(False, PASS, red, PASS, GET, **named)
        # Without a route there is no pass.
        silent = shape_in(*[line.replace("return self.a", "return none") for line in lines])
        named = {"one": Life(shape), "other": Life(silent)}
        self.check_history(True, red, GET, **named)
        self.check_history(False, red, PASS, GET, **named)

    def test_no_steps(self):
        for step in (("call", "nope"), ("call", "get", None), put((4, -1)), put((True, 0)), ["pass"], ("pass", None),
                     put("red"), ("call",), (), None, 3, ("told", None), list(GET), ("call", ["get"])):
            self.check_history(False, step, put((4, 1)), PASS, GET)
            self.check_history(False, put((4, 1)), PASS, step)
            self.check_history(False, put((4, 1)), PASS, step, GET)

    def test_more_passages_than_times(self):
        for times, is_right in ((0, False), (1, True), (2, True), (None, True)):
            self.check_history(is_right, put((4, 1)), PASS, GET, times=times)
        for times, is_right in ((0, False), (1, False), (2, True), (3, True), (None, True)):
            self.check_history(is_right, PASS, put((4, 1)), PASS, GET, times=times)
            self.check_history(is_right, put((4, 1)), PASS, PASS, GET, times=times)
        # Fewer may be left than callers have.
        for left, is_right in ((2, True), (1, False), (0, False)):
            self.check_history(is_right, PASS, put((4, 1)), PASS, GET, times=2, start=joint(None, None, left))

    def test_passes_once_an_object_has_moved(self):
        goal = shape_in("item = none", "def put(x):", "    self.item = x", "def get():", "    return none", marks="")
        move = Passage(BOX, keep=("item",), into=goal)
        back = Passage(goal, into=BOX)
        self.check_history(True, put((4, 1)), PASS, GET, other=Life(BOX, move))
        self.check_history(False, PASS, put((4, 1)), PASS, GET, other=Life(BOX, move))
        self.check_history(True, PASS, put((4, 1)), GET, other=Life(BOX, move))
        self.check_history(True, PASS, put((4, 1)), PASS, GET, other=Life(BOX, move >> back))
        self.check_history(False, PASS, put((4, 1)), GET, other=Life(BOX, move >> back))

    def test_methods_that_are_not_called(self):
        history = (put((4, 1)), PASS, GET)
        for methods, is_right in ((None, True), (("put", "get"), True), (("get", "nope", "put", "get"), True),
                                  (("put",), False), (("get",), False), ((), False)):
            self.check_history(is_right, *history, methods=methods)
        # A method that is not called may stand nowhere, also where it changes nothing.
        named = {"one": Life(shape_in("def a():", "    return red", "def b():")),
                 "other": Life(shape_in("def a():", "    return blue", "def b():"))}
        self.check_history(True, ("call", "b"), ("call", "a"), **named)
        self.check_history(False, ("call", "b"), ("call", "a"), methods=("a",), **named)
        self.check_history(True, ("call", "a"), methods=("a",), **named)

    def test_fresh(self):
        history = (put((4, 1)), PASS, GET)
        self.check_history(True, *history, fresh=True)
        # The same own thing may come again once no object holds it.
        self.check_history(True, put((4, 1)), put(None), put((4, 1)), PASS, GET, fresh=True)
        self.check_history(True, put((4, 1)), put((4, 2)), put((4, 1)), PASS, GET, fresh=True)
        self.check_history(False, put((4, 1)), put((4, 1)), PASS, GET, fresh=True)
        self.check_history(True, put((4, 1)), put((4, 1)), PASS, GET)
        self.check_history(True, put((4, 1)), put((5, 1)), PASS, GET, fresh=True)
        # The first object still holds it, the second one does not; and the other way round.
        self.check_history(False, put((4, 1)), PASS, put((4, 1)), PASS, GET, fresh=True)
        self.check_history(False, put((4, 1)), PASS, put((4, 1)), PASS, GET, fresh=True, one=self.OTHER, other=self.ONE)
        self.check_history(True, put((4, 1)), PASS, put((4, 2)), PASS, GET, fresh=True)
        self.check_history(True, put((4, 1)), PASS, put((4, 1)), PASS, GET)

    def test_fresh_with_copies_and_derived_values(self):
        # A copy is no own thing, and a derived value holds no thing.
        shape = shape_in("a = none", "d: 1", "def put(x):", "    self.a = x", "    self.d = page(x)", "def get():",
                         "    return self.a", marks="")
        save = Passage(shape, save=("a",), keep=("d",))
        named = {"one": Life(shape, save), "other": Life(shape, Passage(shape, keep=("d",))), "fresh": True}
        self.check_history(True, put((4, 1)), PASS, GET, **named)
        self.check_history(True, put((4, 1)), PASS, put((4, 1)), PASS, GET, **named)
        self.check_history(False, put((4, 1)), put((4, 1)), PASS, GET, **named)

    def test_the_same_own_thing_twice_in_one_call(self):
        lines = ("a = none", "def both(x, y):", "    self.a = x", "    if x is y:", "        self.a = none",
                 "def get():", "    return self.a")
        shape = shape_in(*lines, marks="")
        named = {"one": Life(shape), "other": Life(shape, Passage(shape))}
        for one, two, is_right in (((4, 1), (4, 2), True), ((4, 1), (5, 1), True), ((4, 1), None, True)):
            self.check_history(is_right, ("call", "both", one, two), PASS, GET, **named)
            self.check_history(is_right, ("call", "both", one, two), PASS, GET, fresh=True, **named)
        start = ("call", "both", (4, 1), (4, 1))
        rest = (("call", "both", (4, 1), None), PASS, GET)
        self.check_history(True, start, *rest, **named)
        self.check_history(False, start, *rest, fresh=True, **named)
        self.check_history(True, ("call", "both", None, None), *rest, fresh=True, **named)
        # The last call counts as well.
        ends = {"one": Life(shape_in("def m(x, y):", "    if x is y:", "        return red")),
                "other": Life(shape_in("def m(x, y):", "    return none"))}
        self.check_history(True, ("call", "m", (4, 1), (4, 1)), **ends)
        self.check_history(False, ("call", "m", (4, 1), (4, 1)), fresh=True, **ends)
        self.check_history(True, ("call", "m", None, None), fresh=True, **ends)

    def test_by_same(self):
        self.check_history(True, put((4, 1)), PASS, GET, other=Life(BOX, SAVE), look="same")
        self.check_history(False, put((4, 1)), PASS, GET, other=Life(BOX, SAVE))
        self.check_history(False, put((4, 1)), PASS, GET, one=Life(BOX, SAVE), other=Life(BOX, SAVE), look="same")

    def test_starts(self):
        start = joint((0, 0), None)
        self.check_history(True, GET, start=start)
        self.check_history(False, put(None), GET, start=start)
        self.check_history(True, put((0, 0)), PASS, GET, start=start)
        self.check_history(False, put((0, 0)), PASS, GET, start=start, fresh=True)
        self.check_history(True, put((0, 1)), PASS, GET, start=start, fresh=True)
        self.check_history(True, put((4, 1)), PASS, GET, start=joint(None, None))
        self.check_history(False, put((4, 1)), PASS, GET, start=joint(None, None, within=True))

    def test_what_compare_returned(self):
        good = compare(self.ONE, self.OTHER)
        self.check_paper(True, good)
        for at in range(len(good[1])):
            self.check_paper(False, ("parted", good[1][:at] + good[1][at + 1:]))
            self.check_paper(False, ("parted", good[1][:at] + (list(good[1][at]),) + good[1][at + 1:]))
            self.check_paper(False, ("parted", good[1][:at]))
        self.check_paper(False, ("parted", good[1] * 2))
        self.check_paper(False, ("parted", good[1][::-1]))
        self.check_paper(False, good, other=Life(BOX, SAVE))


if __name__ == "__main__":
    unittest.main()
