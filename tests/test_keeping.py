"""Kept sets (33): a certificate for each set of carried fields, the good ones, the least ones, and what is needed."""

import inspect
import itertools
import unittest

from carriedfields import keeping as module
from carriedfields.comparing import compare
from carriedfields.errors import BadPassage, BadRow, NoGood, TooMany
from carriedfields.keeping import KeptSets, is_kept_sets
from carriedfields.pairs import Life
from carriedfields.passages import Passage
from carriedfields.worlds import Callers
from making import Maker
from samples import ODD, Case, nested_if, shape_in, sheet_library
from twins import Twins

BOX = shape_in("item = none", "last = none", "def put(x):", "    self.item = x", "    self.last = none", "def get():",
               "    return self.item", marks="")
# A derived field that is made when it is asked for, and dropped when the item changes.
LAZY = shape_in("item = none", "shown: 1", "def put(x):", "    self.item = x", "    self.shown = none",
                "def show() -> 1:", "    if self.shown is none:", "        self.shown = page(self.item)",
                "    return self.shown", marks="red")
# A field of its own for each of three methods, of which one is never told.
THREE = shape_in("a = none", "b = none", "c = none", "def pa(x):", "    self.a = x", "def pb(x):", "    self.b = x",
                 "def pc(x):", "    self.c = x", "def ga():", "    return self.a", "def gb():",
                 "    return self.b", marks="")


def in_order(fields):
    """All sets of these fields in the order of 33."""
    return [one for size in range(len(fields) + 1) for one in itertools.combinations(sorted(fields), size)]


class KeepingCase(Case):
    def check_sets(self, shape, **named):
        """The kept sets, held against what the point says."""
        sets = KeptSets(shape, most=2000, **named)
        callers = named.pop("callers", None)
        by = named.pop("by", "save")
        names = [name for name, _ in shape.fields]
        self.assertEqual(repr(in_order(names)), repr([fields for fields, _ in sets.entries]))
        good = []
        for entry in sets.entries:
            self.assertIs(tuple, entry.__class__)
            fields, paper = entry
            passage = Passage(shape, **{by: fields}, **named)
            self.assertEqual(repr(compare(Life(shape), Life(shape, passage), callers=callers, most=2000)), repr(paper))
            self.assertTrue(Twins(Life(shape), Life(shape, passage), callers or Callers()).is_paper(paper))
            if paper[0] == "alike":
                good.append(fields)
        self.assertEqual(repr(tuple(good)), repr(sets.good))
        least = [one for one in good if not any(set(other) < set(one) for other in good)]
        self.assertEqual(repr(tuple(least)), repr(sets.least))
        needed = set(names).intersection(*good) if good else set()
        self.assertEqual(repr(tuple(sorted(needed))), repr(sets.needed))
        for fields in in_order(names):
            self.assertIs(fields in good, fields in sets)
        self.assertIs(True, is_kept_sets(shape, sets.entries, by=by, callers=callers, **named))
        for value in (sets.entries, sets.good, sets.least, sets.needed):
            self.assertIs(tuple, value.__class__)
        return sets


class SetsTest(KeepingCase):
    def test_example(self):
        sets = self.check_sets(BOX)
        self.assertEqual([(("item",), ("item", "last")), (("item",),), ("item",)], [sets.good, sets.least, sets.needed])
        self.assertEqual((3, (("item",), ("item", "last"))), sets.cheapest({"item": 3, "last": 0}))

    def test_kinds_without_fields(self):
        for shape in (shape_in(), shape_in("def m(x):", "    return x")):
            for by in ("save", "keep"):
                sets = self.check_sets(shape, by=by)
                self.assertEqual([((),), ((),), ()], [sets.good, sets.least, sets.needed])
                self.assertEqual((0, ((),)), sets.cheapest({}))

    def test_one_field(self):
        shape = shape_in("a = none", "def put(x):", "    self.a = x", "def get():", "    return self.a", marks="")
        for by in ("save", "keep"):
            sets = self.check_sets(shape, by=by)
            self.assertEqual([(("a",),), (("a",),), ("a",)], [sets.good, sets.least, sets.needed])
            # A copy is seen by same, so nothing is good.
            sets = self.check_sets(shape, by=by, callers=Callers(look="same"))
            self.assertEqual([(("a",),), (("a",),), ("a",)] if by == "keep" else [(), (), ()],
                             [sets.good, sets.least, sets.needed])
        shape = shape_in("a = none", "def put(x):", "    self.a = x", marks="")
        sets = self.check_sets(shape)
        self.assertEqual([((), ("a",)), ((),), ()], [sets.good, sets.least, sets.needed])

    def test_three_fields(self):
        for by in ("save", "keep"):
            sets = self.check_sets(THREE, by=by)
            self.assertEqual([(("a", "b"), ("a", "b", "c")), (("a", "b"),), ("a", "b")],
                             [sets.good, sets.least, sets.needed])
        self.assertEqual([(), ("a",), ("b",), ("c",), ("a", "b"), ("a", "c"), ("b", "c"), ("a", "b", "c")],
                         [fields for fields, _ in sets.entries])
        sets = self.check_sets(THREE, callers=Callers(methods=("pa", "ga", "pb")))
        self.assertEqual(("a",), sets.needed)
        self.assertEqual((("a",),), sets.least)
        self.assertEqual(4, len(sets.good))

    def test_the_names_are_ascending(self):
        shape = shape_in("zz = none", "b = none", "ab = none", "a: 1", "def get():", "    return self.zz", marks="")
        sets = self.check_sets(shape)
        self.assertEqual(("a", "ab", "b", "zz"), sets.entries[-1][0])
        self.assertEqual([("a",), ("ab",), ("b",), ("zz",)], [fields for fields, _ in sets.entries[1:5]])
        self.assertEqual([("a", "ab"), ("a", "b"), ("a", "zz"), ("ab", "b")],
                         [fields for fields, _ in sets.entries[5:9]])

    def test_five_fields(self):
        shape = shape_in(*[f"{name} = none" for name in "edcba"], "def put():", "    self.b = red", "def get():",
                         "    return self.b")
        sets = self.check_sets(shape, callers=Callers(times=2))
        self.assertEqual(32, len(sets.entries))
        self.assertEqual(16, len(sets.good))
        self.assertEqual([(("b",),), ("b",)], [sets.least, sets.needed])

    def test_sets_that_are_not_closed_upwards(self):
        sets = self.check_sets(LAZY)
        self.assertEqual([(("item",), ("item", "shown")), (("item",),), ("item",)],
                         [sets.good, sets.least, sets.needed])
        # What is derived says that the item is there: carried without the item it is worse than neither of both.
        shape = shape_in("item = none", "shown: 1", "def look():", "    if self.shown is none:",
                         "        self.item = red", "        self.shown = page(self.item)", "    return self.item")
        sets = self.check_sets(shape)
        self.assertEqual([((), ("item",), ("item", "shown")), ((),), ()], [sets.good, sets.least, sets.needed])
        self.assertNotIn(("shown",), sets)

    def test_a_greater_set_that_is_worse(self):
        # The flag says that the value is there: to carry the flag alone is worse than to carry neither.
        shape = shape_in("flag = none", "held = none", "def look(x):", "    if self.flag is none:",
                         "        self.flag = red", "        self.held = red", "    return self.held")
        sets = self.check_sets(shape)
        self.assertEqual([((), ("held",), ("flag", "held")), ((),), ()], [sets.good, sets.least, sets.needed])
        self.assertNotIn(("flag",), sets)

    def test_nothing_is_good(self):
        shape = shape_in("a = none", "def put():", "    self.a = red", "def get():", "    return self.a")
        sets = self.check_sets(shape, again=(("set", "a", "blue"),))
        self.assertEqual([(), (), ()], [sets.good, sets.least, sets.needed])
        for costs in ({"a": 0}, {"a": 3, "b": -1}):
            self.check_raises(NoGood, {}, sets.cheapest, costs)
            self.check_raises(NoGood, {}, sets.cheapest, costs=costs)
        self.assertNotIn((), sets)
        self.assertNotIn(("a",), sets)

    def test_several_least_sets(self):
        # Each of both fields can be made of the other one.
        shape = shape_in("a = none", "b = none", "def put(x):", "    self.a = x", "    self.b = x", "def get():",
                         "    if self.a is none:", "        self.a = self.b", "    return self.a", marks="red")
        sets = self.check_sets(shape)
        self.assertEqual([(("a",), ("b",), ("a", "b")), (("a",), ("b",)), ()], [sets.good, sets.least, sets.needed])
        self.assertEqual((2, (("b",),)), sets.cheapest({"a": 3, "b": 2}))
        self.assertEqual((2, (("a",), ("b",))), sets.cheapest({"a": 2, "b": 2}))

    def test_again_memo_and_when(self):
        shape = shape_in("a = none", "b = none", "def put(x):", "    self.a = x", "    self.b = x", "def same():",
                         "    if self.a is self.b:", "        return red", "def get():", "    return self.a")
        both = ("a", "b")
        self.assertEqual((both,), self.check_sets(shape).good)
        self.assertEqual((), self.check_sets(shape, memo=False).good)
        self.assertEqual((both,), self.check_sets(shape, by="keep", memo=False).good)
        # What is made anew need not be carried.
        again = (("set", "b", ("self", "a")),)
        self.assertEqual((("a",), both), self.check_sets(shape, again=again).good)
        self.assertEqual((("a",), both), self.check_sets(shape, again=again, memo=False).good)
        when = ((("self", "a"), "is", None),)
        sets = self.check_sets(shape, when=when)
        self.assertEqual(4, len(sets.good))
        self.assertEqual([((),), ()], [sets.least, sets.needed])
        self.assertEqual(4, len(self.check_sets(shape, again=again, memo=False, when=((None, "is not", None),)).good))

    def test_callers(self):
        self.assertEqual(4, len(self.check_sets(BOX, callers=Callers(times=0)).good))
        self.assertEqual(4, len(self.check_sets(BOX, callers=Callers(methods=("put",))).good))
        self.assertEqual((), self.check_sets(BOX, callers=Callers(look="same")).good)
        self.assertEqual(2, len(self.check_sets(BOX, by="keep", callers=Callers(look="same")).good))
        for times in (1, 2, None):
            self.assertEqual(("item",), self.check_sets(BOX, callers=Callers(times=times, fresh=True)).needed)

    def test_the_sheet(self):
        shape = sheet_library()["sheet"]
        sets = self.check_sets(shape, callers=Callers(methods=("put", "show")))
        self.assertEqual(("item",), sets.least[0])
        sets = self.check_sets(shape)
        self.assertEqual((("item", "shown", "style"),), sets.good)

    def test_libraries_by_chance(self):
        good = 0
        for seed in range(40):
            maker = Maker(seed)
            face = maker.face()
            shape = maker.shape(face, 2)
            sets = self.check_sets(shape, by=maker.pick("save", "keep"), callers=maker.callers(face),
                                   memo=maker.pick(True, False))
            good += len(sets.good)
        self.assertGreater(good, 20)


class CostsTest(KeepingCase):
    def check_cheapest(self, sets, costs):
        sums = {fields: sum(costs[field] for field in fields) for fields in sets.good}
        least = min(sums.values())
        wanted = (least, tuple(fields for fields in sets.good if sums[fields] == least))
        before = repr(costs)
        for found in (sets.cheapest(costs), sets.cheapest(costs=costs)):
            self.assertEqual(repr(wanted), repr(found))
            self.assertEqual([tuple, int, tuple], [found.__class__, found[0].__class__, found[1].__class__])
        self.assertEqual(before, repr(costs))

    def test_costs(self):
        sets = [KeptSets(THREE), KeptSets(THREE, callers=Callers(methods=("pa", "ga", "pb"))),
                KeptSets(THREE, callers=Callers(times=0))]
        big = 10 ** 100 - 1
        for some in sets:
            for a, b, c in itertools.product((0, 1, 7, big), repeat=3):
                self.check_cheapest(some, {"a": a, "b": b, "c": c})
                # The order of the keys means nothing, and other keys are not looked at.
                self.check_cheapest(some, {"c": c, "none": -5, 3: "x", "b": b, None: None, ("a",): [], "a": a})
        self.assertEqual((2 * big, (("a", "b"), ("a", "b", "c"))), sets[0].cheapest({"a": big, "b": big, "c": 0}))
        self.assertEqual((0, tuple(in_order("abc"))), sets[2].cheapest({"a": 0, "b": 0, "c": 0}))
        self.assertEqual((0, ((),)), sets[2].cheapest({"a": 1, "b": 1, "c": 1}))
        self.assertEqual((0, ((), ("b",))), sets[2].cheapest({"a": 1, "b": 0, "c": 1}))

    def test_a_greater_set_may_be_as_cheap(self):
        shape = shape_in("a = none", "b = none", "c = none", "def put(x):", "    self.a = x", "    self.b = x",
                         "    self.c = x", "def get():", "    if self.a is none:", "        if self.b is self.c:",
                         "            self.a = self.b", "    return self.a", marks="red")
        sets = KeptSets(shape)
        self.assertEqual((("a",), ("b", "c")), sets.least)
        self.assertEqual((4, (("a",), ("b", "c"))), sets.cheapest({"a": 4, "b": 1, "c": 3}))
        self.assertEqual((3, (("b", "c"),)), sets.cheapest({"a": 4, "b": 1, "c": 2}))
        self.assertEqual((1, (("a",), ("a", "b"))), sets.cheapest({"a": 1, "b": 0, "c": 2}))


class ErrorsTest(KeepingCase):
    def check_wrong(self, error, told, **named):
        self.check_raises(error, told, KeptSets, BOX, **named)
        self.check_raises(error, told, is_kept_sets, BOX, 3, **named)
        self.check_raises(error, told, is_kept_sets, BOX, KeptSets(BOX).entries, **named)
        self.check_raises(error, told, KeptSets, BOX, most=1, **named)

    def test_by(self):
        for by in [*ODD, None, "Save", "KEEP", "saves", "", ("save",), ["save"], ("save", "keep"), ("item",), b"save",
                   KeptSets(BOX)]:
            self.check_wrong(BadPassage, {"part": "by"}, by=by)
            self.check_wrong(BadPassage, {"part": "by"}, by=by, again=3, memo=3, when=3)

    def test_parts_of_the_passage(self):
        for by in ("save", "keep"):
            for again in [odd for odd in ODD if not isinstance(odd, tuple)] + [None, [], [("set", "item", None)]]:
                self.check_wrong(BadRow, {"at": -1}, by=by, again=again, memo=3, when=3)
            good = ("set", "item", None)
            for odd in [*ODD, ("return", None), ("set", "item"), None, list(good)]:
                self.check_wrong(BadRow, {"at": 1}, by=by, again=(good, odd), memo=3, when=3)
            self.check_wrong(BadRow, {"at": 16}, by=by, again=(good,) * 17)
            self.check_wrong(BadRow, {"at": 5}, by=by, again=(nested_if(5, (good,)),))
            for row in (("set", "nope", None), ("set", "item", "x"), ("set", "item", ("page", None)),
                        ("let", "w", ("self", "nope")), ("set", "item", ("cls", "A"))):
                self.check_wrong(BadPassage, {"part": "again"}, by=by, again=(good, row), memo=3, when=3)
            for memo in [*ODD, None, 0, 1]:
                if not isinstance(memo, bool):
                    self.check_wrong(BadPassage, {"part": "memo"}, by=by, memo=memo, when=3)
            for when in [*ODD, None, [], ((None, "is"),), ((None, "=", None),), ((("self", "nope"), "is", None),),
                         ((("page", None), "is", None),), (("x", "is", None),), ([None, "is", None],)]:
                if when != ():
                    self.check_wrong(BadPassage, {"part": "when"}, by=by, when=when)

    def test_also_without_fields(self):
        shape = shape_in()
        for function in (KeptSets, lambda shape, **named: is_kept_sets(shape, 3, **named)):
            self.check_raises(BadPassage, {"part": "by"}, function, shape, by="carry")
            self.check_raises(BadRow, {"at": -1}, function, shape, again=3)
            self.check_raises(BadPassage, {"part": "memo"}, function, shape, memo=3)
            self.check_raises(BadPassage, {"part": "when"}, function, shape, when=3)

    def test_many(self):
        self.assertEqual(400, module.MOST)
        self.assertEqual(400, KeptSets.__init__.__kwdefaults__["most"])
        entries = KeptSets(THREE, most=2000).entries
        needs = max(len(paper[1]) for _, paper in entries if paper[0] == "alike")
        self.assertEqual(repr(entries), repr(KeptSets(THREE, most=needs).entries))
        for most in (1, needs - 1):
            self.check_raises(TooMany, {"what": "joints"}, KeptSets, THREE, most=most)
        # A checker counts no joint worlds.
        self.assertIs(True, is_kept_sets(THREE, entries))
        lives = (Life(BOX), Life(BOX, Passage(BOX, save=("item", "last"))))
        for times, is_right in ((198, True), (200, False)):
            callers = Callers(times=times, methods=("put",))
            if is_right:
                self.assertEqual(4, len(KeptSets(BOX, by="keep", callers=Callers(times=times, methods=("get",))).good))
            else:
                self.check_raises(TooMany, {"what": "joints"}, KeptSets, BOX, callers=callers)
                self.check_raises(TooMany, {"what": "joints"}, compare, *lives, callers=callers)


class AnyValueTest(KeepingCase):
    def setUp(self):
        self.entries = KeptSets(BOX).entries

    def check_thing(self, is_right, thing, shape=BOX, **named):
        self.assertIs(is_right, is_kept_sets(shape, thing, **named))

    def test_in(self):
        sets = KeptSets(BOX)
        for fields in [*ODD, None, "item", ["item"], ("last", "item"), ("item", "item"), ("item", "last", "nope"),
                       (("item",),), {"item"}, (), ("last",), sets, ("item", None), ("item", ["last"]), ("item", 1)]:
            self.assertIs(False, fields in sets)
        for fields in (("item",), ("item", "last")):
            self.assertIs(True, fields in sets)

    def test_right_entries(self):
        self.check_thing(True, self.entries)
        self.assertIs(True, is_kept_sets(shape=BOX, thing=self.entries, by="save", again=(), memo=True, when=(),
                                         callers=None))
        self.check_thing(True, self.entries, callers=Callers())
        self.check_thing(False, self.entries, callers=Callers(times=0))
        self.check_thing(False, self.entries, callers=Callers(look="same"))
        # A certificate of saved fields has more joint worlds than one of kept fields needs.
        self.check_thing(True, self.entries, by="keep")
        self.check_thing(False, KeptSets(BOX, by="keep").entries)
        self.check_thing(False, self.entries, again=(("set", "item", None),))
        self.check_thing(False, self.entries, when=((("self", "item"), "is", None),))
        self.check_thing(True, self.entries, again=(("set", "last", None),))
        self.check_thing(True, self.entries, memo=False)

    def test_other_right_certificates(self):
        for at, (fields, paper) in enumerate(self.entries):
            def with_paper(other, at=at, fields=fields):
                return self.entries[:at] + ((fields, other),) + self.entries[at + 1:]
            if paper[0] == "alike":
                for joints, is_right in (
                    (paper[1][::-1], True), (paper[1] * 2, True), (paper[1][1:], False), ((), False),
                    (list(paper[1]), False), (paper[1] + (None,), False),
                ):
                    self.check_thing(is_right, with_paper(("alike", joints)))
                self.check_thing(False, with_paper(("parted", paper[1])))
            else:
                longer = (("call", "get"), ("call", "put", (7, 7)), ("pass",), ("pass",), ("call", "get"))
                for history, is_right in ((longer, True), (longer[1:], True), (longer[:-1], False), ((), False),
                                          (longer * 2, False), (list(longer), False), (longer[:2], False)):
                    self.check_thing(is_right, with_paper(("parted", history)))

    def test_entries_that_are_changed(self):
        for at, (fields, paper) in enumerate(self.entries):
            rest = (self.entries[:at], self.entries[at + 1:])
            for entry in [*ODD, None, (fields,), (fields, paper, None), [fields, paper], (list(fields), paper),
                          (paper, fields), (fields + ("nope",), paper), (fields, None), (fields, list(paper)),
                          (fields, paper[1]), (None, paper), ("item", paper), (fields, ("alike", ())),
                          (fields, ("parted", ())), ((fields,), paper), (set(fields), paper)]:
                self.check_thing(False, rest[0] + (entry,) + rest[1])
            self.check_thing(False, rest[0] + rest[1])
            self.check_thing(False, rest[0] + (self.entries[at],) * 2 + rest[1])
            for where, other in enumerate(self.entries):
                if where != at:
                    self.check_thing(False, rest[0] + (other,) + rest[1])
                    # Whatever is saved beside the item, the joint worlds are the same ones; so are the histories.
                    self.check_thing(paper[0] == other[1][0], rest[0] + ((fields, other[1]),) + rest[1])
        self.check_thing(False, self.entries[::-1])
        self.check_thing(False, (self.entries[0], self.entries[2], self.entries[1], self.entries[3]))
        self.check_thing(False, self.entries + self.entries[:1])

    def test_names_in_another_order(self):
        self.check_thing(False, self.entries[:3] + ((("last", "item"), self.entries[3][1]),))

    def test_any_value(self):
        for thing in [*ODD, None, (), list(self.entries), self.entries[0], (self.entries,), KeptSets(BOX), "alike",
                      BOX]:
            self.check_thing(False, thing)
            self.check_thing(False, thing, shape_in())
        good = KeptSets(shape_in()).entries
        self.check_thing(True, good, shape_in())
        for odd in ODD:
            self.check_thing(False, (odd,), shape_in())
            self.check_thing(False, (((), odd),), shape_in())
            self.check_thing(False, ((odd, good[0][1]),), shape_in())

    def test_in_other_words(self):
        wanted = repr(KeptSets(BOX).entries)
        self.assertEqual(wanted, repr(KeptSets(shape=BOX, by="save", again=(), memo=True, when=(), callers=None,
                                               most=400).entries))
        self.assertEqual(wanted, repr(KeptSets(BOX, callers=Callers()).entries))
        self.assertEqual(["shape", "by", "again", "memo", "when", "callers", "most"],
                         list(inspect.signature(KeptSets).parameters))
        self.check_foreign(KeptSets(BOX))
        self.check_unequal(KeptSets(BOX), KeptSets(BOX).entries)

    def test_nothing_is_changed(self):
        sets = KeptSets(BOX)
        before = repr(vars(sets))
        costs = {"last": 2, "item": 1}
        sets.cheapest(costs)
        self.assertIs(True, ("item",) in sets)
        self.assertEqual([("last", 2), ("item", 1)], list(costs.items()))
        self.assertEqual(before, repr(vars(sets)))


if __name__ == "__main__":
    unittest.main()
