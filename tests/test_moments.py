"""Moments (32): entries for all worlds of a kind, patterns, and which of them are safe."""

import unittest

from carriedfields import moments as module
from carriedfields.comparing import compare, is_paper
from carriedfields.errors import BadState, TooMany
from carriedfields.moments import Moments, is_moments, pattern
from carriedfields.pairs import Life, Pair
from carriedfields.passages import Passage
from carriedfields.worlds import Callers, Worlds
from making import Maker
from samples import ODD, Case, shape_in, sheet_library
from twins import Twins, joint_of

# The derived field goes stale if the item is put in without show, as put forgets it.
LAZY = shape_in(
    "item = none", "shown: 1", "def put(x):", "    self.item = x", "    self.shown = none", "def show() -> 1:",
    "    if self.shown is none:", "        self.shown = page(self.item)", "    return self.shown", marks="red",
)
BOX = shape_in("item = none", "def put(x):", "    self.item = x", "def get():", "    return self.item", marks="")
ROLES = shape_in("a = none", "enter on(x):", "    self.a = x", "leave off():", "    w = self.a", "    return w",
                 "def look():", "    return self.a", marks="")


class MomentsCase(Case):
    def check_moments(self, route, callers=None, most=2000):
        """The moments of a route, held against what the point says."""
        some = Callers() if callers is None else callers
        moments = Moments(route, callers=callers, most=most)
        worlds = Worlds(route.shape, callers=callers, most=most)
        self.assertIs(tuple, moments.entries.__class__)
        self.assertEqual(len(worlds), len(moments))
        self.assertEqual(len(worlds), len(moments.entries))
        one, other = Life(route.shape), Life(route.shape, route)
        still = Callers(times=0, look=some.look, methods=some.methods, fresh=some.fresh)
        for k, entry in enumerate(moments.entries):
            self.assertIs(tuple, entry.__class__)
            world, paper = entry
            self.assertEqual(repr(worlds[k]), repr(world))
            start = self.start_of(one, other, world)
            if start is None:
                self.assertIsNone(paper)
                continue
            self.assertEqual(repr(compare(one, other, callers=still, most=most, start=start)), repr(paper))
            self.assertTrue(Twins(one, other, still).is_paper(paper, start))
        self.assertEqual(self.safe_patterns(moments.entries, route.shape), moments.safe())
        self.assertIs(tuple, moments.safe().__class__)
        self.assertIs(True, is_moments(route, moments.entries, callers=callers, most=most))
        return moments

    def start_of(self, one, other, world):
        """The joint world of an object at a world and the one that the route gives, or None."""
        place = ((world[0], False), (world[0], False), world[1], None)
        there = Twins(one, other, Callers()).pass_at(place)
        return None if there is None else joint_of((*there[:3], 0))

    def safe_patterns(self, entries, shape):
        found = []
        for world, _ in entries:
            key = pattern(shape, world)
            papers = [paper for state, paper in entries if pattern(shape, state) == key]
            if key not in found and all(paper is not None and paper[0] == "alike" for paper in papers):
                found.append(key)
        return tuple(found)


class EntriesTest(MomentsCase):
    def test_a_box(self):
        keep, save, drop = Passage(BOX, keep=("item",)), Passage(BOX, save=("item",)), Passage(BOX)
        empty, full = ((None,), False), (((0, 0),), False)
        moments = self.check_moments(keep)
        self.assertEqual([empty, full], [world for world, _ in moments.entries])
        self.assertEqual(((None, False), ("thing", False)), moments.safe())
        moments = self.check_moments(drop)
        self.assertEqual(["alike", "parted"], [paper[0] for _, paper in moments.entries])
        self.assertEqual(("parted", (("call", "get"),)), moments.entries[1][1])
        self.assertEqual(((None, False),), moments.safe())
        self.assertEqual(2, len(self.check_moments(save).safe()))
        self.assertEqual(((None, False),), self.check_moments(save, Callers(look="same")).safe())
        for route in (save >> keep, keep >> save >> keep):
            self.assertEqual(((None, False), ("thing", False)), self.check_moments(route).safe())
        self.assertEqual(((None, False),), self.check_moments(keep >> drop).safe())

    def test_derived_fields(self):
        for save, safe in (
            (("item", "shown"), ((None, None, False), ("red", None, False), ("thing", None, False),
                                 (None, "made", False), ("red", "made", False), ("thing", "made", False))),
            (("item",), ((None, None, False), ("red", None, False), ("thing", None, False), (None, "made", False),
                         ("red", "made", False), ("thing", "made", False))),
            (("shown",), ((None, None, False), (None, "made", False))),
            ((), ((None, None, False), (None, "made", False))),
        ):
            moments = self.check_moments(Passage(LAZY, save=save))
            # What is derived from the item stays right until the next put, so a passage is seen only later.
            if save == ("shown",):
                self.assertIn(("thing", "made", False), moments.safe())
                self.assertNotIn(("thing", None, False), moments.safe())
            else:
                self.assertEqual(set(safe), set(moments.safe()))

    def test_a_pattern_that_some_worlds_make_unsafe(self):
        # The passage is not seen where both are one thing, or where neither is looked at any more.
        shape = shape_in("a = none", "b = none", "def put(x, y):", "    self.a = x", "    self.b = y", "def alike():",
                         "    if self.a == self.b:", "        return red", marks="red")
        swap = Passage(shape, keep=("a", "b"), names=(("b", "a"),))
        moments = self.check_moments(swap)
        keyed = {}
        for world, paper in moments.entries:
            keyed.setdefault(pattern(shape, world), set()).add(paper[0])
        self.assertEqual({"alike", "parted"}, keyed[("thing", "thing", False)])
        self.assertNotIn(("thing", "thing", False), moments.safe())
        self.assertIn((None, None, False), moments.safe())
        self.assertNotIn((None, "thing", False), moments.safe())

    def test_the_order_of_the_worlds_of_an_unsafe_pattern(self):
        # Of both worlds with two things, the passage is noticed at the one alone or at the other one alone.
        for sign in ("==", "!="):
            shape = shape_in("a = none", "b = none", "def put(x, y):", "    self.a = x", "    self.b = y",
                             "def alike():", f"    if self.a {sign} self.b:", "        return self.a", marks="")
            route = Passage(shape, save=("a", "b"), memo=False)
            moments = self.check_moments(route, Callers(look="same"))
            told = [paper[0] for world, paper in moments.entries if pattern(shape, world) == ("thing", "thing", False)]
            self.assertEqual({"alike", "parted"}, set(told))
            self.assertEqual("parted" if sign == "!=" else "alike", told[-1])
            self.assertNotIn(("thing", "thing", False), moments.safe())

    def test_worlds_where_the_object_is_within(self):
        keep = Passage(ROLES, keep=("a",))
        moments = self.check_moments(keep)
        within = [world[1] for world, _ in moments.entries]
        self.assertIn(True, within)
        self.assertEqual(within, [paper is None for _, paper in moments.entries])
        self.assertEqual({False}, {key[-1] for key in moments.safe()})
        moments = self.check_moments(Passage(ROLES))
        self.assertEqual(((None, False),), moments.safe())

    def test_routes_that_are_not_possible_everywhere(self):
        test = ((("self", "item"), "is not", None),)
        for route in (Passage(BOX, keep=("item",), when=test), Passage(BOX, keep=("item",)) >> Passage(BOX, when=test),
                      Passage(BOX, keep=("item",), when=test) >> Passage(BOX, save=("item",))):
            moments = self.check_moments(route)
            self.assertIsNone(moments.entries[0][1])
            self.assertIsNotNone(moments.entries[1][1])
        self.assertEqual((("thing", False),), moments.safe())
        never = Passage(BOX, when=((None, "is not", None),))
        moments = self.check_moments(never)
        self.assertEqual([None, None], [paper for _, paper in moments.entries])
        self.assertEqual((), moments.safe())

    def test_a_pattern_where_the_route_is_not_possible_at_one_world(self):
        shape = shape_in("a = none", "b = none", "def put(x, y):", "    self.a = x", "    self.b = y", marks="")
        keep = Passage(shape, keep=("a", "b"), when=((("self", "a"), "==", ("self", "b")),))
        moments = self.check_moments(keep)
        self.assertEqual(((None, None, False),), moments.safe())

    def test_passages_into_another_kind(self):
        goal = shape_in("held = none", "def put(x):", "    self.held = x", "def get():", "    return self.held",
                        marks="")
        move = Passage(BOX, keep=("held",), into=goal, names=(("held", "item"),))
        back = Passage(goal, save=("item",), into=BOX, names=(("item", "held"),))
        for route, moved in ((move, True), (move >> back, False), (Passage(BOX, save=("item",)) >> move, True)):
            moments = self.check_moments(route)
            self.assertEqual(2, len(moments.safe()))
            for _, paper in moments.entries:
                self.assertEqual({(False, moved, 0)}, {(one[1], other[1], left) for one, other, _, left in paper[1]})
        self.assertEqual(((None, False),), self.check_moments(Passage(BOX, into=goal)).safe())
        self.assertEqual(((None, False),), self.check_moments(move >> back, Callers(look="same")).safe())

    def test_times_are_not_looked_at(self):
        drop = Passage(BOX)
        wanted = repr(Moments(drop).entries)
        for times in (None, 0, 1, 7, 10 ** 99):
            self.assertEqual(wanted, repr(Moments(drop, callers=Callers(times=times)).entries))
            self.assertTrue(is_moments(drop, Moments(drop).entries, callers=Callers(times=times)))

    def test_callers(self):
        drop = Passage(BOX)
        for callers in (Callers(methods=("get",)), Callers(methods=()), Callers(methods=("put",)),
                        Callers(methods=("put", "get", "nope"), fresh=True), Callers(fresh=True, look="same")):
            moments = self.check_moments(drop, callers)
            self.assertEqual(1 if callers.methods in ((), ("get",)) else 2, len(moments))
        self.assertEqual(((None, False), ("thing", False)), Moments(drop, callers=Callers(methods=("put",))).safe())

    def test_kinds_without_fields_or_methods(self):
        for shape in (shape_in(), shape_in("a = red"), shape_in("def m():")):
            moments = self.check_moments(Passage(shape))
            self.assertEqual(1, len(moments))
            self.assertEqual((("red", False) if shape.fields else (False,),), moments.safe())

    def test_libraries_by_chance(self):
        for seed in range(60):
            maker = Maker(seed)
            face = maker.face()
            shape = maker.shape(face, 2)
            route = maker.life(shape, face).route
            if route is not None:
                self.check_moments(route, maker.callers(face))

    def test_in_other_words(self):
        drop = Passage(BOX)
        wanted = repr(Moments(drop).entries)
        self.assertEqual(wanted, repr(Moments(route=drop, callers=None, most=400).entries))
        self.assertEqual(wanted, repr(Moments(drop, callers=Callers()).entries))
        self.check_foreign(Moments(drop))
        self.check_unequal(Moments(drop), Moments(drop).entries)

    def test_many(self):
        self.assertEqual(400, module.MOST)
        self.assertEqual([400, 400], [Moments.__init__.__kwdefaults__["most"], is_moments.__kwdefaults__["most"]])
        keep = Passage(LAZY, keep=("item", "shown"))
        worlds = len(Worlds(LAZY))
        self.assertEqual(worlds, len(Moments(keep, most=worlds)))
        for most in (1, worlds - 1):
            self.check_raises(TooMany, {"what": "worlds"}, Moments, keep, most=most)
            for thing in (Moments(keep).entries, 3, None):
                self.check_raises(TooMany, {"what": "worlds"}, is_moments, keep, thing, most=most)
        # Two objects have more joint worlds than one of them has worlds.
        shape = shape_in("a = none", "b = none", "def put(x):", "    if self.a is none:", "        self.a = x",
                         "        self.b = x", "def turn(x):", "    if self.a == x:", "        self.a = self.b",
                         "        self.b = x", marks="")
        save = Passage(shape, save=("a", "b"))
        worlds = len(Worlds(shape))
        joints = max(len(paper[1]) for _, paper in self.check_moments(save).entries)
        self.assertLess(worlds + 1, joints)
        self.assertEqual(worlds, len(Moments(save, most=joints)))
        for most in (worlds, joints - 1):
            self.check_raises(TooMany, {"what": "joints"}, Moments, save, most=most)
            # A checker counts no joint worlds.
            self.assertIs(True, is_moments(save, Moments(save).entries, most=most))
        self.check_raises(TooMany, {"what": "worlds"}, Moments, save, most=worlds - 1)
        self.check_raises(TooMany, {"what": "worlds"}, is_moments, save, 3, most=worlds - 1)


class PatternTest(MomentsCase):
    def test_patterns(self):
        shape = shape_in("a = none", "b = none", "d: 1", "e: 3")
        for values, marks in (
            ((None, None, None, None), (None, None, None, None)),
            (("red", (0, 0), None, ("page", 0)), ("red", "thing", None, "made")),
            (((0, -1), "blue", ("page", None), ("page", ("page", "red"))), ("thing", "blue", "made", "made")),
            (((10 ** 99, 10 ** 99), (5, -5), ("page", 5), None), ("thing", "thing", "made", None)),
        ):
            for within in (False, True):
                wanted = (*marks, within)
                self.assertEqual(repr(wanted), repr(pattern(shape, (values, within))))
                self.assertEqual(repr(wanted), repr(pattern(shape=shape, state=(values, within))))
                self.assertIs(tuple, pattern(shape, (values, within)).__class__)
        self.assertEqual((False,), pattern(shape_in(), ((), False)))
        self.assertEqual((True,), pattern(shape_in(), ((), True)))

    def test_bad_states(self):
        shape = shape_in("a = none", "d: 1")
        good = ((None, None), False)
        for state in [
            *ODD, None, (), good[:1], good + (None,), list(good), (list(good[0]), False), (good[0], 0), (good[0], 1),
            (good[0], None), ((None,), False), ((None, None, None), False), (("green", None), False),
            ((None, "red"), False), ((None, (0, 0)), False), ((("page", 0), None), False), ((True, None), False),
            (((0, True), None), False), (((-1, 0), None), False), ((None, ("page", True)), False),
            ((None, ("page", ("page", 0))), False), ((["page", 0], None), False), good[0], (good, False),
            ("thing", False),
        ]:
            self.check_raises(BadState, {"given": state}, pattern, shape, state)
        for odd in ODD:
            self.check_raises(BadState, {"given": (odd, False)}, pattern, shape, (odd, False))
            if not isinstance(odd, bool):
                self.check_raises(BadState, {"given": (good[0], odd)}, pattern, shape, (good[0], odd))
            if odd != ("page", 1):
                self.check_raises(BadState, {"given": ((None, odd), False)}, pattern, shape, ((None, odd), False))


class AnyValueTest(MomentsCase):
    def setUp(self):
        self.route = Passage(ROLES, save=("a",))
        self.entries = Moments(self.route).entries

    def check_wrong(self, thing, route=None, **named):
        self.assertIs(False, is_moments(route or self.route, thing, **named))

    def test_right_entries(self):
        self.assertIs(True, is_moments(self.route, self.entries))
        self.assertIs(True, is_moments(route=self.route, thing=self.entries, callers=None, most=400))
        self.assertIs(False, is_moments(self.route, self.entries, callers=Callers(look="same")))
        for keep in ((), ("item",)):
            route = Passage(BOX, keep=keep)
            self.assertIs(bool(keep), is_moments(Passage(BOX, keep=("item",)), Moments(route).entries))

    def test_other_right_certificates(self):
        route = Passage(BOX)
        entries = Moments(route).entries
        world, paper = entries[1]
        for history in (
            (("call", "get"),), (("call", "put", (0, 0)), ("call", "put", (5, 5)), ("call", "put", None)),
            (("call", "get"), ("call", "get")), (), (("pass",),), (("call", "put", (5, 5)), ("call", "get")),
        ):
            is_right = history == (("call", "get"),)
            self.assertIs(is_right, is_moments(route, (entries[0], (world, ("parted", history)))))
        route = Passage(BOX, save=("item",))
        entries = Moments(route).entries
        more = (((0, -1),), False), (((0, -1),), False), False, 0
        for at, (world, paper) in enumerate(entries):
            for joints, is_right in ((paper[1][::-1], True), (paper[1] * 2, True), (paper[1] + (more,), True),
                                     (paper[1][1:], False), (paper[1][:-1], False), ((more,), False), ((), False)):
                thing = entries[:at] + ((world, ("alike", joints)),) + entries[at + 1:]
                self.assertIs(is_right, is_moments(route, thing), joints)
        # No passage is left, so joint worlds before which one is left are none.
        for left in (1, 2, None, -1, False):
            joints = entries[1][1][1]
            other = tuple((*joint[:3], left) for joint in joints)
            self.assertIs(False, is_moments(route, (entries[0], (entries[1][0], ("alike", joints + other)))))
        shape = shape_in("a = none", "b = none", "def put(x):", "    self.a = x", "def turn():", "    self.b = self.a",
                         "def get():", "    return self.b", marks="")
        route = Passage(shape, keep=("b",))
        entries = Moments(route).entries
        world, paper = entries[1]
        self.assertEqual(("parted", (("call", "turn"), ("call", "get"))), paper)
        longer = (("call", "get"), ("call", "get"), ("call", "turn"), ("call", "get"))
        self.assertIs(True, is_moments(route, (entries[0], (world, ("parted", longer)), *entries[2:])))

    def test_entries_that_are_changed(self):
        for at, (world, paper) in enumerate(self.entries):
            rest = (self.entries[:at], self.entries[at + 1:])
            wrong = [
                (world, None) if paper is not None else (world, ("alike", ())), (world,), (world, paper, None),
                [world, paper], (list(world), paper), (paper, world), (world[0], paper),
                ((world[0], not world[1]), paper),
                ((world[0], int(world[1])), paper), (((5, 5), False), paper), ((((0, 1),), False), paper), world, paper,
                None, (world, False), (world, ()), (world, "alike"), (None, paper),
                (world, list(paper) if paper else []), (world, (paper,)),
                (world, ("parted", paper[1]) if paper else ("parted", ())),
            ]
            for entry in [*wrong, *ODD]:
                self.check_wrong(rest[0] + (entry,) + rest[1])
            self.check_wrong(rest[0] + rest[1])
            self.check_wrong(self.entries[:at] + (self.entries[at],) + self.entries[at:])
        self.check_wrong(self.entries + self.entries[:1])
        self.check_wrong(self.entries[::-1])
        self.check_wrong(self.entries[1::-1] + self.entries[2:])

    def test_worlds_where_the_route_is_not_possible(self):
        at = [k for k, (_, paper) in enumerate(self.entries) if paper is None][0]
        world = self.entries[at][0]
        joints = self.entries[0][1][1]
        for paper in (("alike", joints), ("alike", ()), ("parted", ()), (), False, 0, "none"):
            self.check_wrong(self.entries[:at] + ((world, paper),) + self.entries[at + 1:])

    def test_any_value(self):
        for thing in [*ODD, None, (), list(self.entries), self.entries[0], (self.entries,), Moments(self.route),
                      "alike", self.route, Pair(Life(ROLES), Life(ROLES))]:
            self.check_wrong(thing)
        self.check_wrong((), Passage(shape_in()))
        for odd in ODD:
            self.check_wrong((odd,), Passage(shape_in()))
            self.check_wrong(((((), False), odd),), Passage(shape_in()))

    def test_truth_values_in_the_place_of_integers(self):
        world, paper = self.entries[0]
        for joint in paper[1]:
            for wrong in (joint[:3] + (False,), (*joint[:2], 0, 0), ((joint[0][0], 0), *joint[1:])):
                joints = tuple(wrong if one == joint else one for one in paper[1])
                self.check_wrong(((world, ("alike", joints)), *self.entries[1:]))
        route = Passage(BOX, keep=("item",))
        entries = Moments(route).entries
        self.check_wrong((entries[0], ((((False, 0),), False), entries[1][1])), route)
        self.check_wrong((entries[0], ((((0, 0),), 0), entries[1][1])), route)

    def test_nothing_is_changed(self):
        before = repr((self.entries, vars(self.route)))
        is_moments(self.route, self.entries)
        Moments(self.route).safe()
        self.assertEqual(before, repr((self.entries, vars(self.route))))


class SheetTest(MomentsCase):
    def test_the_sheet(self):
        # What was made goes stale when style is changed; it is not carried, so it is noticed wherever it was made.
        shape = sheet_library()["sheet"]
        route = Passage.of(shape)
        moments = self.check_moments(route)
        whats = (None, "done", "draft", "thing")
        self.assertEqual({(item, None, style, False) for item in whats for style in whats}, set(moments.safe()))
        for world, paper in moments.entries:
            self.assertEqual(world[0][1] is None, paper[0] == "alike")
            if paper[0] == "parted":
                self.assertEqual(("call", "show"), paper[1][-1])
                self.assertIs(True, is_paper(Life(shape), Life(shape, route), paper, callers=Callers(times=0),
                                             start=self.start_of(Life(shape), Life(shape, route), world)))


if __name__ == "__main__":
    unittest.main()
