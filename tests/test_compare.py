"""What compare returns (31): layers, certificates and bounds."""

import itertools
import unittest

from carriedfields import comparing
from carriedfields.comparing import compare, is_paper
from carriedfields.errors import BadJoint, TooMany, UnlikeFaces
from carriedfields.pairs import Life, Pair
from carriedfields.passages import Passage
from carriedfields.worlds import MOST, Callers
from samples import ODD, Case, shape_in, sheet_library
from twins import Twins

BOX = shape_in("item = none", "def put(x):", "    self.item = x", "def get():", "    return self.item", marks="")
KEEP = Passage(BOX, keep=("item",))
SAVE = Passage(BOX, save=("item",))
DROP = Passage(BOX)
SAME = Callers(look="same")


def counter(most):
    """A class that tells red only after so many calls: a field for each of them, from the last one to the first."""
    names = "abcde"[:most]
    lines = [f"{name} = none" for name in names]
    rows = [f"    self.{later} = self.{name}" for name, later in reversed(list(zip(names, names[1:])))]
    return lines + ["def step():"] + rows + ["    self.a = red", f"    return self.{names[-1]}"]


class CompareCase(Case):
    def certificate(self, one, other, callers=None, start=None):
        """What compare returns, held against what the point says."""
        twins = Twins(one, other, Callers() if callers is None else callers)
        layers, is_parted = twins.search(start)
        paper = compare(one, other, callers=callers, start=start, most=2000)
        self.assertIs(tuple, paper.__class__)
        self.assertEqual(2, len(paper))
        self.assertIs(tuple, paper[1].__class__)
        joints = [joint for layer in layers for joint in layer]
        if is_parted:
            self.assertEqual("parted", paper[0])
            self.assertEqual(len(layers), len(paper[1]))
            self.check_history(one, other, paper[1], callers, start)
        else:
            self.assertEqual("alike", paper[0])
            self.assertEqual(sorted(map(repr, joints)), sorted(map(repr, paper[1])))
        self.assertTrue(twins.is_paper(paper, start))
        self.assertIs(True, is_paper(one, other, paper, callers=callers, start=start))
        self.check_bounds(one, other, callers, start, len(joints))
        return paper

    def check_history(self, one, other, history, callers, start):
        pair = Pair(one, other, callers=callers)
        if start is not None:
            pair = Pair.set_up(one, other, start, callers=callers)
        for at, step in enumerate(history):
            self.assertIn(step, list(pair.steps()))
            sights = pair.do(step)
            self.assertEqual(at == len(history) - 1, sights is not None and sights[0] != sights[1])

    def check_bounds(self, one, other, callers, start, count):
        """So many joint worlds stand in the layers: this many are enough, and one less is too few."""
        whole = compare(one, other, callers=callers, start=start, most=2000)
        self.assertEqual(repr(whole), repr(compare(one, other, callers=callers, start=start, most=count)))
        for most in {1, count // 2, count - 1} - {0, count}:
            self.check_raises(TooMany, {"what": "joints"}, compare, one, other, callers=callers, start=start, most=most)

    def check_alike(self, one, other, count=None, **named):
        for lives in ((one, other), (other, one)):
            paper = self.certificate(*lives, Callers(**named))
            self.assertEqual("alike", paper[0])
            if count is not None:
                self.assertEqual(count, len(paper[1]))

    def check_parted(self, one, other, *histories, **named):
        """A shortest history parts, one of these if there are any."""
        paper = self.certificate(one, other, Callers(**named))
        self.assertEqual("parted", paper[0])
        if histories:
            self.assertIn(paper[1], histories)
        self.assertEqual(len(paper[1]), len(self.certificate(other, one, Callers(**named))[1]))


class AlikeTest(CompareCase):
    def test_lives_that_are_the_same(self):
        for shape in (BOX, sheet_library()["sheet"], shape_in(*counter(3)), shape_in(), shape_in("a = none")):
            self.check_alike(Life(shape), Life(shape))
            self.check_alike(Life(shape), Life(shape), look="same", fresh=True)
            keep = Passage(shape, keep=tuple(name for name, _ in shape.fields))
            self.check_alike(Life(shape), Life(shape, keep))
            self.check_alike(Life(shape, keep), Life(shape, keep >> keep), look="same")

    def test_the_joint_worlds(self):
        first = (((None,), False), ((None,), False), False, None)
        put = ((((0, 0),), False), (((0, 0),), False), False, None)
        copied = ((((0, 0),), False), (((0, -1),), False), False, None)
        paper = self.certificate(Life(BOX), Life(BOX, SAVE))
        self.assertEqual({first, put, copied}, set(paper[1]))
        self.check_alike(Life(BOX), Life(BOX, SAVE), 3)
        self.check_alike(Life(BOX), Life(BOX, KEEP), 2, look="same")
        self.check_alike(Life(BOX, SAVE), Life(BOX, SAVE), 3, look="same")
        self.check_alike(Life(BOX, SAVE), Life(BOX, SAVE >> SAVE), 3, look="same")
        # Two of one content that a caller can tell from each other are seen apart.
        self.check_parted(Life(BOX), Life(BOX, SAVE), look="same")

    def test_times(self):
        for times, count in ((None, 3), (0, 2), (1, 5), (2, 8), (7, 23)):
            self.check_alike(Life(BOX), Life(BOX, SAVE), count, times=times)
        self.check_alike(Life(BOX), Life(BOX, DROP), 2, times=0)
        # Without a route no passage comes, so none is taken off.
        for times in (None, 0, 3):
            self.check_alike(Life(BOX), Life(BOX), 2, times=times)

    def test_another_class(self):
        other = shape_in("held = none", "more = none", "def get():", "    w = self.held", "    self.more = w",
                         "    return w", "def put(y):", "    self.held = y", "    self.more = none", marks="")
        self.check_alike(Life(BOX), Life(other))
        move = Passage(BOX, keep=("held",), into=other, names=(("held", "item"),))
        self.check_alike(Life(BOX), Life(BOX, move), look="same")
        self.check_alike(Life(BOX, move), Life(other), look="same")
        self.check_alike(Life(BOX, SAVE >> move), Life(BOX, SAVE), times=1, look="same")
        # The one goes through its route once, as no pass is possible any more then.
        self.check_alike(Life(BOX, SAVE >> move), Life(BOX, SAVE), look="same")
        self.check_parted(Life(BOX), Life(BOX, Passage(BOX, into=other)))
        back = Passage(other, keep=("item",), into=BOX, names=(("item", "held"),))
        self.check_alike(Life(BOX), Life(BOX, move >> back), look="same")
        joints = self.certificate(Life(BOX), Life(BOX, move))[1]
        self.assertEqual({(False, False), (False, True)}, {(one[1], twin[1]) for one, twin, _, _ in joints})
        joints = self.certificate(Life(BOX), Life(BOX, move >> back))[1]
        self.assertEqual({(False, False)}, {(one[1], twin[1]) for one, twin, _, _ in joints})

    def test_who_does_not_look(self):
        lives = (Life(BOX), Life(BOX, DROP))
        self.check_parted(*lives, (("call", "put", (0, 0)), ("pass",), ("call", "get")))
        self.check_alike(*lives, methods=("put",))
        self.check_alike(*lives, methods=("get",))
        self.check_alike(*lives, methods=())
        self.check_parted(*lives, methods=("get", "put", "nope"))

    def test_fresh_callers(self):
        # Only who passes the same own thing again can be told that it is held.
        lines = ("a = none", "def put(x):", "    if self.a is x:", "        w = {}", "    self.a = x", "    return w")
        one, other = [shape_in(*[line.format(mark) for line in lines], marks="red blue") for mark in ("red", "none")]
        self.check_parted(Life(one), Life(other))
        lines = ("a = none", "def put(x):", "    if x is none:", "        return none", "    if x is red:",
                 "        return none", "    if self.a is x:", "        return {}", "    self.a = x")
        one, other = [shape_in(*[line.format(mark) for line in lines], marks="red") for mark in ("red", "none")]
        put = ("call", "put", (0, 0))
        self.check_parted(Life(one), Life(other), (put, put))
        self.check_alike(Life(one), Life(other), fresh=True)
        both = ("def put(x, y):", "    if x is none:", "        return none", "    if x is red:", "        return none",
                "    if x is y:", "        return {}")
        one, other = [shape_in(*[line.format(mark) for line in both], marks="red") for mark in ("red", "none")]
        self.check_parted(Life(one), Life(other), (("call", "put", (0, 0), (0, 0)),))
        self.check_alike(Life(one), Life(other), fresh=True)

    def test_roles(self):
        lines = ("a = none", "enter open(x):", "    self.a = x", "leave shut():", "    w = self.a", "    self.a = none",
                 "    return w")
        shape = shape_in(*lines)
        # Nothing is held but within, where no passage comes.
        self.check_alike(Life(shape), Life(shape, Passage(shape)), look="same")
        lines = ("a = none", "def open(x):", "    self.a = x", "def shut():", "    w = self.a", "    self.a = none",
                 "    return w")
        shape = shape_in(*lines)
        self.check_parted(Life(shape), Life(shape, Passage(shape)))

    def test_derived_values(self):
        shape = sheet_library()["sheet"]
        life = Life(shape)
        self.check_parted(life, Life(shape, Passage.of(shape)))
        everything = Passage(shape, save=("item", "style", "shown"))
        self.check_alike(life, Life(shape, everything), look="same")
        self.check_parted(life, Life(shape, Passage(shape, save=("style", "shown"))))
        # The derived value alone is worse than nothing of it.
        lazy = shape_in("item = none", "shown: 1", "def show() -> 1:", "    if self.shown is none:",
                        "        self.shown = page(self.item)", "    return self.shown", "def put(x):",
                        "    self.item = x", "    self.shown = none")
        self.check_alike(Life(lazy), Life(lazy, Passage(lazy, save=("item",))), look="same")
        self.check_parted(Life(lazy), Life(lazy, Passage(lazy, save=("shown",))))
        self.check_parted(Life(lazy), Life(lazy, Passage(lazy)))


class PartedTest(CompareCase):
    def test_shortest_histories(self):
        for count in (1, 2, 3, 4, 5):
            shape = shape_in(*counter(count))
            other = shape_in(*counter(count)[:-1])
            history = (("call", "step"),) * count
            self.check_parted(Life(shape), Life(other), history)
            self.check_alike(Life(shape), Life(shape_in(*counter(count))), count + 1)

    def test_passages_stand_in_histories(self):
        self.check_parted(Life(BOX), Life(BOX, DROP), (("call", "put", (0, 0)), ("pass",), ("call", "get")))
        self.check_parted(Life(BOX), Life(BOX, SAVE), (("call", "put", (0, 0)), ("pass",), ("call", "get")),
                          look="same")
        # Two passages are needed to bring the old value back.
        shape = shape_in("a = red", "b = none", "def look():", "    return self.b")
        turn = Passage(shape, keep=("a", "b"), names=(("b", "a"), ("a", "b")))
        self.check_parted(Life(shape), Life(shape, turn), (("pass",), ("call", "look")))
        self.check_alike(Life(shape), Life(shape, turn >> turn))
        late = shape_in("a = none", "b = none", "c = red", "def look():", "    return self.a")
        push = Passage(late, keep=("a", "b", "c"), names=(("a", "b"), ("b", "c")))
        for times in (None, 2, 3):
            self.check_parted(Life(late), Life(late, push), (("pass",), ("pass",), ("call", "look")), times=times)
        for times in (0, 1):
            self.check_alike(Life(late), Life(late, push), times=times)

    def test_tests_of_passages(self):
        shape = shape_in("a = none", "def put(x):", "    self.a = x", "def get():", "    return self.a")
        drop = Passage(shape, when=((("self", "a"), "is", "red"),))
        self.check_parted(Life(shape), Life(shape, drop), (("call", "put", "red"), ("pass",), ("call", "get")))
        drop = Passage(shape, when=((("self", "a"), "is", None),))
        self.check_alike(Life(shape), Life(shape, drop), look="same")

    def test_memo(self):
        shape = shape_in("a = none", "b = none", "def put(x):", "    self.a = x", "    self.b = x", "def same():",
                         "    if self.a is self.b:", "        return red", "def get():", "    return self.a")
        both = ("a", "b")
        self.check_alike(Life(shape), Life(shape, Passage(shape, save=both)))
        self.check_parted(Life(shape), Life(shape, Passage(shape, save=both, memo=False)),
                          (("call", "put", (0, 0)), ("pass",), ("call", "same")))
        self.check_alike(Life(shape, Passage(shape, save=both)), Life(shape, Passage(shape, save=both)), look="same")

    def test_contents_with_things_of_more_than_one_call(self):
        shape = shape_in("a = none", "b = none", "def put(x):", "    self.b = self.a", "    self.a = x", "def alike():",
                         "    if self.a == self.b:", "        return red", "def one():", "    if self.a is self.b:",
                         "        return red")
        self.check_parted(Life(shape), Life(shape, Passage(shape, save=("b",), keep=("a",))))
        self.check_alike(Life(shape), Life(shape, Passage(shape, save=("b", "a"))), methods=("put", "alike"))
        self.check_parted(Life(shape), Life(shape, Passage(shape, save=("b", "a"))))
        self.check_alike(Life(shape), Life(shape, Passage(shape, keep=("b", "a"))), look="same")

    def test_in_other_words(self):
        one, other = Life(BOX), Life(BOX, DROP)
        wanted = repr(compare(one, other))
        self.assertEqual(wanted, repr(compare(one=one, other=other, callers=None, most=400, start=None)))
        self.assertEqual(wanted, repr(compare(one, other, callers=Callers())))
        self.assertEqual(wanted, repr(compare(one, other, start=Pair(one, other).joint)))


class StartTest(CompareCase):
    def test_given_joint_worlds(self):
        lives = (Life(BOX), Life(BOX, SAVE))
        for one, other in itertools.product((None, (0, 0), (0, -1)), repeat=2):
            for left in (0, 1):
                for look in ("equal", "same"):
                    callers = Callers(times=1, look=look)
                    joint = (((one,), False), ((other,), False), False, left)
                    paper = self.certificate(*lives, callers, joint)
                    # By same the copy of a passage that is left is told from what is put.
                    agree = (one is None) == (other is None)
                    is_alike = agree and (look == "equal" or (one == other and left == 0))
                    self.assertEqual(is_alike, paper[0] == "alike")
                    if paper[0] == "alike":
                        self.assertIn(joint, paper[1])

    def test_histories_begin_there(self):
        shape = shape_in("a = none", "b = none", "def tell():", "    return self.a", "def turn():", "    w = self.a",
                         "    self.a = self.b", "    self.b = w")
        life = Life(shape)
        joint = ((((0, 0), (1, 0)), False), (((0, 0), (2, 0)), False), False, None)
        paper = self.certificate(life, life, None, joint)
        self.assertEqual(("parted", (("call", "turn"), ("call", "tell"))), paper)
        joint = ((((0, 0), (0, -1)), False), (((0, 0), (0, -1)), False), False, None)
        self.assertEqual("alike", self.certificate(life, life, SAME, joint)[0])

    def test_within(self):
        shape = shape_in("a = none", "enter on(x):", "    self.a = x", "leave off():", "    return self.a")
        life = Life(shape, Passage(shape))
        for within in (False, True):
            joint = ((("red",), False), ((None,), False), within, None)
            paper = self.certificate(life, Life(shape), None, joint)
            self.assertEqual("parted" if within else "alike", paper[0])

    def test_moved(self):
        goal = shape_in("b = red", "def put(x):", "    self.b = x", "def get():", "    return self.b", marks="red")
        shape = shape_in("a = none", "def put(x):", "    self.a = x", "def get():", "    return self.a", marks="red")
        move = Life(shape, Passage(shape, into=goal))
        for one, other, moved, gone in itertools.product((None, "red"), (None, "red"), (False, True), (False, True)):
            joint = (((one,), moved), ((other,), gone), False, None)
            paper = self.certificate(move, move, None, joint)
            self.assertEqual(one == other, paper[0] == "alike")

    def test_wrong_starts(self):
        lives = (Life(BOX), Life(BOX, SAVE))
        good = (((None,), False), ((None,), False), False, None)
        for start in [*[odd for odd in ODD if odd is not None], 0, False, (), "", [], good[:3], list(good), (good,),
                      (((None,), False), ((None,), True), False, None), (((None,), False), ((None,), False), False, 0),
                      ((((0, 1),), False), (((0, 0),), False), False, None), Pair(*lives)]:
            self.check_raises(BadJoint, {"given": start}, compare, *lives, start=start)
            self.check_raises(BadJoint, {"given": start}, compare, *lives, start=start, most=1)
            self.check_raises(BadJoint, {"given": start}, is_paper, *lives, 3, start=start)
            self.check_raises(UnlikeFaces, {}, compare, Life(BOX), Life(shape_in()), start=start, most=1)


class BoundsTest(CompareCase):
    def test_most_as_it_is_without_being_said(self):
        self.assertEqual(400, MOST)
        self.assertEqual(400, compare.__kwdefaults__["most"])
        self.assertEqual(400, comparing.MOST)
        # A joint world for each time and each of both values.
        for times, is_right in ((198, True), (199, True), (200, False), (10 ** 99, False)):
            lives = (Life(BOX), Life(BOX, KEEP))
            callers = Callers(times=times)
            if is_right:
                self.assertEqual(2 * (times + 1), len(compare(*lives, callers=callers)[1]))
            else:
                self.check_raises(TooMany, {"what": "joints"}, compare, *lives, callers=callers)
        self.assertEqual(2000, len(compare(Life(BOX), Life(BOX, KEEP), callers=Callers(times=999), most=2000)[1]))
        self.check_raises(TooMany, {"what": "joints"}, compare, Life(BOX), Life(BOX, KEEP), callers=Callers(times=1000),
                          most=2000)

    def test_one_joint_world(self):
        shape = shape_in("a = none", "def get():", "    return self.a")
        self.assertEqual(("alike", ((((None,), False), ((None,), False), False, None),)),
                         compare(Life(shape), Life(shape), most=1))
        self.check_raises(TooMany, {"what": "joints"}, compare, Life(BOX), Life(BOX), most=1)

    def test_a_history_that_the_layers_hold(self):
        # The first layer has the only joint world that there may be, and more in the next one; but one call parts.
        lines = ("a = none", "def put(x):", "    self.a = x", "def see():", "    return {}")
        one, other = [shape_in(*[line.format(mark) for line in lines]) for mark in ("red", "blue")]
        self.assertEqual(("parted", (("call", "see"),)), compare(Life(one), Life(other), most=1))
        # The history is in the layer that is full.
        names = "pqrstu"
        lines = ["a = none", "b = none"]
        for name in names[:-1]:
            lines += [f"def {name}(x, y):", "    self.a = x", "    self.b = y"]
        one = shape_in(*lines, "def u(x, y):", "    if self.a is red:", "        return red")
        other = shape_in(*lines, "def u(x, y):")
        layers, is_parted = Twins(Life(one), Life(other), Callers()).search()
        self.assertTrue(is_parted)
        self.assertEqual(2, len(layers))
        count = len(layers[0]) + len(layers[1])
        self.assertEqual(18, count)
        self.assertEqual(2, len(compare(Life(one), Life(other), most=count)[1]))
        self.check_raises(TooMany, {"what": "joints"}, compare, Life(one), Life(other), most=count - 1)

    def test_the_last_step_of_the_last_joint_world(self):
        # No step of the first ones parts, and they alone lead to more than may be: the layer is looked at all the same.
        lines = ["a = none", "b = none", "c = none", "def a(x):", "    if x is red:", "        self.a = red",
                 "    else:", "        self.b = x", "def b(x):", "    self.c = x", "def z():"]
        one = shape_in(*lines, "    if self.a is red:", "        return red")
        other = shape_in(*lines)
        layers, _ = Twins(Life(one), Life(other), Callers()).search()
        self.assertEqual(2, len(layers))
        self.certificate(Life(one), Life(other))

    def test_nothing_is_changed(self):
        one, other, callers = Life(BOX), Life(BOX, SAVE), Callers(times=1)
        before = [repr(vars(thing)) for thing in (one, other, callers, BOX, SAVE)]
        compare(one, other, callers=callers)
        self.check_raises(TooMany, {"what": "joints"}, compare, one, other, callers=callers, most=1)
        self.assertEqual(before, [repr(vars(thing)) for thing in (one, other, callers, BOX, SAVE)])
        self.assertEqual(compare(one, other), compare(one, other))


if __name__ == "__main__":
    unittest.main()
