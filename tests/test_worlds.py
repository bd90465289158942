"""Worlds (24, 26): canonical forms, and the search for all worlds that callers reach."""

import itertools
import unittest

from carriedfields import worlds as module
from carriedfields.errors import BadStep, TooMany
from carriedfields.kinds import Kind
from carriedfields.libraries import Library
from carriedfields.running import Run
from carriedfields.worlds import MOST, Callers, Worlds, calls_at, world_of
from samples import ODD, Case, plain_fields, shape_in, sheet_library

BIG = 10 ** 100 - 1


def contents_in(trace):
    """The contents of a trace from left to right."""
    if isinstance(trace, tuple):
        return [content for part in trace[1:] for content in contents_in(part)]
    return [trace] if isinstance(trace, int) else []


def is_canonical(values):
    """Whether values are canonical, told in the words of 24."""
    contents, own, copies = [], {}, {}
    for value in values:
        if isinstance(value, tuple) and isinstance(value[0], int):
            met = [value[0]]
            numbers = (own if value[1] >= 0 else copies).setdefault(value[0], [])
            if value[1] not in numbers:
                numbers.append(value[1])
        else:
            met = contents_in(value)
        contents.extend(content for content in met if content not in contents)
    return (
        contents == list(range(len(contents))) and all(numbers == list(range(len(numbers))) for numbers in own.values())
        and all(numbers == [-1 - at for at in range(len(numbers))] for numbers in copies.values())
    )


def pairs_of(one, other, found):
    """Put what stands at the same place in two values into a list of pairs."""
    if isinstance(one, tuple) and isinstance(one[0], int):
        found.append((("content", one[0]), ("content", other[0])))
        found.append((("number", one, one[1] >= 0), ("number", other, other[1] >= 0)))
    elif isinstance(one, tuple):
        assert len(one) == len(other) and one[0] == other[0]
        for part, twin in zip(one[1:], other[1:]):
            pairs_of(part, twin, found)
    elif isinstance(one, int):
        found.append((("content", one), ("content", other)))
    else:
        assert one == other
    return found


class CanonicalTest(Case):
    SHAPE = shape_in("a = none", "b = none", "c = none", "d: 3", "e: 1")

    def check_world(self, values, expected):
        for within in (False, True):
            found = world_of(self.SHAPE, (values, within))
            self.assertEqual(repr((expected, within)), repr(found))
            self.assertEqual(repr(found), repr(world_of(shape=self.SHAPE, state=found)))

    def test_values_without_things(self):
        for values in ((None, None, None, None, None), ("red", None, "blue", ("page", None, "red"), ("leaf", "blue"))):
            self.check_world(values, values)

    def test_contents(self):
        self.check_world(((7, 0), (5, 0), (7, 0), None, None), ((0, 0), (1, 0), (0, 0), None, None))
        self.check_world(((BIG, 0), (0, 0), (1, 0), None, None), ((0, 0), (1, 0), (2, 0), None, None))
        self.check_world((None, None, None, ("page", 7, 5), ("leaf", 5)),
                         (None, None, None, ("page", 0, 1), ("leaf", 1)))
        self.check_world((None, (5, 0), None, ("page", ("a", 7, ("b", 5)), 9), ("leaf", 9, 8)),
                         (None, (0, 0), None, ("page", ("a", 1, ("b", 0)), 2), ("leaf", 2, 3)))
        self.check_world((None, None, None, ("page", 3, ("leaf", 2, 3)), None),
                         (None, None, None, ("page", 0, ("leaf", 1, 0)), None))

    def test_own_numbers(self):
        self.check_world(((5, 3), (5, 3), (5, 1), None, None), ((0, 0), (0, 0), (0, 1), None, None))
        self.check_world(((5, 3), (6, 3), (5, 1), None, None), ((0, 0), (1, 0), (0, 1), None, None))
        self.check_world(((5, BIG), (5, 0), (6, BIG), None, None), ((0, 0), (0, 1), (1, 0), None, None))

    def test_copies(self):
        self.check_world(((5, -3), (5, -1), (5, -3), None, None), ((0, -1), (0, -2), (0, -1), None, None))
        self.check_world(((5, -3), (6, -3), (5, -2), None, None), ((0, -1), (1, -1), (0, -2), None, None))
        self.check_world(((5, -3), (5, 2), (5, -2), None, None), ((0, -1), (0, 0), (0, -2), None, None))
        self.check_world(((5, 1), (5, -BIG), (5, 0), ("page", 6, 5), None),
                         ((0, 0), (0, -1), (0, 1), ("page", 1, 0), None))

    def test_canonical_values_stay(self):
        for values in (
            ((0, 0), (0, 1), (1, 0), ("page", 2, 0), ("leaf", 1, 3)), ((0, -1), (0, 0), (0, -2), None, None),
            (None, (0, -1), (1, -1), ("page", 0), None),
        ):
            self.check_world(values, values)

    def test_all_values_of_three_fields_with_a_derived_one(self):
        things = [None, "red", (0, 0), (0, 1), (1, 0), (1, 2), (0, -1), (0, -2), (1, -2)]
        derived = [None, ("page", 1), ("page", 0, 1), ("page", ("leaf", 2), 0)]
        for values in itertools.product(things, things, things, derived, derived[:2]):
            world, within = world_of(self.SHAPE, (values, True))
            self.assertIs(True, within)
            self.assertTrue(is_canonical(world))
            pairs = set()
            for one, other in zip(values, world):
                pairs.update(pairs_of(one, other, []))
            self.assertEqual(len(pairs), len({one for one, _ in pairs}))
            self.assertEqual(len(pairs), len({other for _, other in pairs}))
            self.assertEqual([one[2] for one, _ in pairs if one[0] == "number"],
                             [other[2] for _, other in pairs if other[0] == "number"])
            if is_canonical(values):
                self.assertEqual(values, world)

    def test_states_are_not_changed(self):
        state = (((5, 3), None, None, None, None), False)
        world_of(self.SHAPE, state)
        self.assertEqual((((5, 3), None, None, None, None), False), state)


class WorldsCase(Case):
    def check_worlds(self, shape, expected, **named):
        worlds = Worlds(shape, **named)
        self.assertEqual(repr(expected), repr([worlds[k] for k in range(len(worlds))]))
        self.check_search(shape, worlds, named.get("callers"))
        return worlds

    def check_search(self, shape, worlds, callers=None):
        """The worlds are those of a search that is told in the words of 26, and all that is said of them holds."""
        found, depths = [world_of(shape, Run(shape).state)], [0]
        for k, world in enumerate(found):
            self.assertEqual(world, worlds[k])
            self.assertEqual(depths[k], worlds.depth(k))
            self.assertIs(True, world in worlds)
            for call in calls_at(shape, world, callers=callers):
                run = Run.set_up(shape, world)
                run.call(*call[1:])
                led = world_of(shape, run.state)
                if led not in found:
                    found.append(led)
                    depths.append(depths[k] + 1)
                self.assertEqual(found.index(led), worlds.after(k, call))
            self.check_history(shape, worlds, k, callers or Callers())
        self.assertEqual(len(found), len(worlds))

    def check_history(self, shape, worlds, k, callers):
        history = worlds.history(k)
        self.assertIs(tuple, history.__class__)
        self.assertEqual(worlds.depth(k), len(history))
        run = Run(shape)
        for call in history:
            self.assertIs(tuple, call.__class__)
            held = list(run.state[0])
            if callers.fresh:
                for at, thing in enumerate(call[2:]):
                    if isinstance(thing, tuple):
                        self.assertNotIn(thing, held)
                        self.assertNotIn(thing, call[2:][:at])
            if callers.methods is not None:
                self.assertIn(call[1], callers.methods)
            run.play((call,))
        self.assertEqual(worlds[k], world_of(shape, run.state))
        other = Run(shape)
        other.play(history)
        self.assertEqual(run.state, other.state)


class WorldsTest(WorldsCase):
    def test_example(self):
        worlds = self.check_worlds(shape_in("item = none", "def put(x):", "    self.item = x", marks=""),
                                   [((None,), False), (((0, 0),), False)])
        self.assertEqual([2, (((0, 0),), False), 1], [len(worlds), worlds[1], worlds.depth(1)])
        self.assertEqual((("call", "put", (0, 0)),), worlds.history(1))
        self.assertEqual((), worlds.history(0))

    def test_the_sheet(self):
        shape = sheet_library()["sheet"]
        for callers in (None, Callers(fresh=True), Callers(methods=("put", "show")),
                        Callers(methods=("rest", "rest", "show"))):
            worlds = Worlds(shape, callers=callers)
            self.check_search(shape, worlds, callers)
        worlds = Worlds(shape)
        self.assertEqual(((None, None, "draft"), False), worlds[0])
        self.assertEqual(((None, ("page", None, "draft"), "draft"), False), worlds[worlds.after(0, ("call", "show"))])

    def test_the_order_of_the_worlds(self):
        shape = shape_in("a = none", "b = none", "def put(x, y):", "    self.a = x", "    self.b = y", "def drop():",
                         "    self.a = none", marks="red")
        states = [
            (None, None), (None, "red"), (None, (0, 0)), ("red", None), ("red", "red"), ("red", (0, 0)), ((0, 0), None),
            ((0, 0), "red"),
            ((0, 0), (0, 0)), ((0, 0), (0, 1)), ((0, 0), (1, 0)),
        ]
        worlds = self.check_worlds(shape, [(values, False) for values in states])
        self.assertEqual([0] + [1] * 10, [worlds.depth(k) for k in range(11)])
        # Of two ways to a world the first one that is found counts.
        shape = shape_in("a = none", "def z():", "    self.a = blue", "def b():", "    self.a = red",
                         "    if self.a is red:", "def c():", "    self.a = blue")
        worlds = self.check_worlds(shape, [((None,), False), (("red",), False), (("blue",), False)])
        self.assertEqual((("call", "c"),), worlds.history(2))

    def test_depths(self):
        shape = shape_in(
            "a = none", "b = none", "c = none", "def push(x):", "    self.c = self.b", "    self.b = self.a",
            "    self.a = x", marks="",
        )
        for fresh in (False, True):
            callers = Callers(fresh=fresh)
            worlds = Worlds(shape, callers=callers)
            self.check_search(shape, worlds, callers)
            self.assertEqual(3, max(worlds.depth(k) for k in range(len(worlds))))
            self.assertEqual((((0, 0), (0, 1), (0, 0)), False) in worlds, not fresh)
        # None in some of the fields and things that are alike or not in the others: 1 + 3 * 1 + 3 * 3 + 12.
        self.assertEqual(25, len(Worlds(shape)))

    def test_fresh_histories_rename(self):
        shape = shape_in("a = none", "b = none", "def push(x):", "    self.b = self.a", "    self.a = x", "def swap():",
                         "    w = self.a",
                         "    self.a = self.b", "    self.b = w", marks="")
        for callers in (Callers(fresh=True), Callers(fresh=True, methods=("push",)), Callers()):
            self.check_search(shape, Worlds(shape, callers=callers), callers)

    def test_kinds_without_fields_or_methods(self):
        self.check_worlds(shape_in("f = red"), [(("red",), False)])
        self.check_worlds(shape_in(), [((), False)])
        self.check_worlds(shape_in("def m(x, y):", "    return x"), [((), False)])
        self.check_worlds(Library(Kind("a", fields=plain_fields("xy")))["a"], [((None, None), False)])

    def test_kinds_with_roles(self):
        shape = shape_in("a = none", "enter open(x):", "    self.a = x", "    if x is red:", "        refuse none",
                         "leave shut():", "    refuse red", marks="red")
        states = [((None,), False), ((None,), True), (("red",), False), (((0, 0),), True), (((0, 0),), False)]
        worlds = self.check_worlds(shape, states)
        self.assertEqual([0, 1, 1, 1, 2], [worlds.depth(k) for k in range(5)])
        self.check_raises(BadStep, {"given": ("call", "shut")}, worlds.after, 0, ("call", "shut"))
        self.check_raises(BadStep, {"given": ("call", "open", None)}, worlds.after, 1, ("call", "open", None))
        self.assertEqual(0, worlds.after(1, ("call", "shut")))

    def test_kinds_with_derived_values(self):
        shape = shape_in(
            "a = none", "d: 1", "e: 2", "def put(x):", "    self.a = x", "def make():",
            "    self.e = leaf(self.d, self.a)", "    self.d = page(self.a)",
            "def drop():", "    self.a = none", marks="",
        )
        worlds = Worlds(shape)
        self.check_search(shape, worlds)
        self.assertIn(((None, ("page", 0), ("leaf", ("page", 1), 0)), False), [worlds[k] for k in range(len(worlds))])
        callers = Callers(fresh=True, methods=("make", "put"))
        self.check_search(shape, Worlds(shape, callers=callers), callers)

    def test_heirs(self):
        shape = shape_in("A = red", "f = cls.A", "def m(x):", "    self.f = x", "class h(k):", "A = blue", "g = none",
                         "def m(x):", "    self.g = self.f", "    super(x)", name="h")
        worlds = Worlds(shape)
        self.assertEqual((("blue", None), False), worlds[0])
        self.check_search(shape, worlds)

    def test_methods_that_are_left_out(self):
        shape = shape_in("a = none", "b = none", "def one(x):", "    self.a = x", "def two():", "    self.b = self.a",
                         marks="")
        self.check_worlds(shape, [((None, None), False)], callers=Callers(methods=()))
        self.check_worlds(shape, [((None, None), False)], callers=Callers(methods=("two", "nope")))
        self.check_worlds(shape, [((None, None), False), (((0, 0), None), False)], callers=Callers(methods=("one",)))
        whole = Worlds(shape)
        for callers in (Callers(methods=("one", "two")), Callers(methods=("two", "one", "two")),
                        Callers(times=0, look="same")):
            self.check_worlds(shape, [whole[k] for k in range(len(whole))], callers=callers)

    def test_fresh_callers(self):
        shape = shape_in("a = none", "b = none", "def put(x, y):", "    self.a = x", "    self.b = y", marks="")
        self.assertIn((((0, 0), (0, 0)), False), Worlds(shape))
        callers = Callers(fresh=True)
        worlds = self.check_worlds(shape, [
            ((None, None), False), ((None, (0, 0)), False), (((0, 0), None), False), (((0, 0), (0, 1)), False),
            (((0, 0), (1, 0)), False),
        ], callers=callers)
        self.assertNotIn((((0, 0), (0, 0)), False), worlds)
        call = ("call", "put", (0, 0), (0, 0))
        self.check_raises(BadStep, {"given": call}, worlds.after, 0, call)
        self.assertEqual(Worlds(shape).after(0, call), 3)


class MostTest(WorldsCase):
    SHAPE = shape_in("a = none", "def put(x):", "    self.a = x")

    def test_bounds(self):
        self.assertEqual(400, MOST)
        self.assertEqual(400, module.MOST)
        for most in (4, 5, 2000):
            self.assertEqual(4, len(Worlds(self.SHAPE, most=most)))
        for most in (1, 2, 3):
            self.check_raises(TooMany, {"what": "worlds"}, Worlds, self.SHAPE, most=most)
        self.assertEqual(1, len(Worlds(shape_in("a = none"), most=1)))
        self.assertEqual(1, len(Worlds(shape=self.SHAPE, callers=Callers(methods=()), most=1)))
        self.check_raises(TooMany, {"what": "worlds"}, Worlds, shape_in("a = none", "def m():", "    self.a = red"),
                          most=1)

    def test_most_as_it_is_without_being_said(self):
        lines = [f"{name} = none" for name in "abcde"]
        for name in "abcde":
            lines += [f"def put{name}(x):", f"    self.{name} = x"]
        shape = shape_in(*lines, marks="")
        self.check_raises(TooMany, {"what": "worlds"}, Worlds, shape)
        self.check_raises(TooMany, {"what": "worlds"}, Worlds, shape, most=813)
        self.assertEqual(814, len(Worlds(shape, most=814)))
        four = shape_in(*[line for at, line in enumerate(lines) if at not in (4, 13, 14)], marks="")
        self.assertEqual(131, len(Worlds(four)))

    def test_exactly_four_hundred_worlds(self):
        # A field has so many values as marks may be put into it, and None.
        fields = {"a": "wxyz", "b": "wxyz", "c": "wxy", "d": "wxy"}
        lines = [f"{name} = none" for name in fields]
        for name, marks in fields.items():
            lines.append(f"def put{name}(p):")
            for mark in marks:
                lines += [f"    if p is {mark}:", f"        self.{name} = {mark}"]
        shape = shape_in(*lines, marks="w x y z")
        self.assertEqual(100, len(Worlds(shape, callers=Callers(methods=("puta", "putb", "putc")))))
        self.assertEqual(400, len(Worlds(shape)))
        self.assertEqual(400, len(Worlds(shape, most=400)))
        self.check_raises(TooMany, {"what": "worlds"}, Worlds, shape, most=399)
        lines += ["def more(p):", "    if p is z:", "        self.d = z"]
        shape = shape_in(*lines, marks="w x y z")
        self.check_raises(TooMany, {"what": "worlds"}, Worlds, shape)
        self.assertEqual(500, len(Worlds(shape, most=500)))


class AnyValueTest(WorldsCase):
    def setUp(self):
        self.shape = shape_in("a = none", "d: 1", "def put(x):", "    self.a = x", "    self.d = page(x)", "def get():",
                              "    return self.a")
        self.worlds = Worlds(self.shape)

    def test_in(self):
        for k in range(len(self.worlds)):
            world = self.worlds[k]
            self.assertIs(True, world in self.worlds)
            values, within = world
            for state in ((values, True), values, (values,), [values, within], (list(values), within), (values, 0),
                          (values, within, within), world + (None,)):
                self.assertIs(False, state in self.worlds)
        self.assertIs(True, (((0, 0), ("page", 0)), False) in self.worlds)
        for state in (
            (((1, 0), ("page", 1)), False), (((0, 1), ("page", 0)), False), (((0, 0), ("page", 1)), False),
            (((0, False), ("page", 0)), False),
            (((False, 0), ("page", 0)), False), (((0, 0), ("page", False)), False), (((0, 0), ("page", 0)), 0),
            (((0, 0), ("page", 0)), None),
            (((0, -1), ("page", 0)), False), (((0, 0), None), False), (((0, 0), ["page", 0]), False),
            ([(0, 0), ("page", 0)], False), self.worlds,
        ):
            self.assertIs(False, state in self.worlds)
        for odd in ODD:
            self.assertIs(False, odd in self.worlds)

    def test_bad_steps(self):
        calls = list(calls_at(self.shape, self.worlds[0]))
        at = self.worlds.after(0, ("call", "put", (0, 0)))
        more = list(calls_at(self.shape, self.worlds[at]))
        wrong = list(ODD) + [("call", odd) for odd in ODD] + [("call", "put", odd) for odd in ODD if odd != (0, 0)] + [
            (), ("call",), ("pass",), ("call", "put"), ("call", "get", None), ("call", "put", None, None),
            ("call", "put", (1, 0)), ("call", "put", (0, 1)),
            ("call", "put", (0, False)), ("call", "put", (False, 0)), ("call", "put", (0, -1)),
            ("call", "put", "green"), ["call", "put", None],
            ("call", "put", [0, 0]), ("call", "nope"), ("call", "put", ("page", 0)), (("call", "get"),), "get",
            ("told", None), (calls[0],), self.worlds,
        ]
        for call in wrong:
            self.check_raises(BadStep, {"given": call}, self.worlds.after, 0, call)
        for call in calls:
            self.assertIs(int, self.worlds.after(0, call).__class__)
            self.assertEqual(self.worlds.after(0, call), self.worlds.after(k=0, call=call))
        for call in more:
            if call not in calls:
                self.check_raises(BadStep, {"given": call}, self.worlds.after, 0, call)
                self.assertIn(self.worlds.after(at, call), range(len(self.worlds)))
        for call in (("call", "put", (5, 5)), ("call", "put", (2, 0)), ("call", "put", (0, 2)),
                     ("call", "put", (True, 0)), ("call", "put", (0, True))):
            self.check_raises(BadStep, {"given": call}, self.worlds.after, at, call)

    def test_methods_that_are_left_out_are_no_steps(self):
        worlds = Worlds(self.shape, callers=Callers(methods=("put",), fresh=True))
        self.check_raises(BadStep, {"given": ("call", "get")}, worlds.after, 0, ("call", "get"))
        at = worlds.after(0, ("call", "put", (0, 0)))
        self.check_raises(BadStep, {"given": ("call", "put", (0, 0))}, worlds.after, at, ("call", "put", (0, 0)))
        self.assertEqual(at, worlds.after(at, ("call", "put", (0, 1))))
        self.assertEqual(at, worlds.after(at, ("call", "put", (1, 0))))

    def test_named_arguments(self):
        self.assertEqual(0, self.worlds.depth(k=0))
        self.assertEqual((), self.worlds.history(k=0))

    def test_nothing_is_changed(self):
        before = [(self.worlds[k], self.worlds.depth(k), self.worlds.history(k)) for k in range(len(self.worlds))]
        self.worlds.after(0, ("call", "get"))
        self.check_raises(BadStep, {"given": 3}, self.worlds.after, 0, 3)
        self.assertEqual(before,
                         [(self.worlds[k], self.worlds.depth(k),
                           self.worlds.history(k)) for k in range(len(self.worlds))])
        self.check_foreign(self.worlds)
        with self.assertRaises(TypeError):
            iter(self.worlds)

    def test_results_are_tuples(self):
        for k in range(len(self.worlds)):
            for value in (self.worlds[k], self.worlds[k][0], self.worlds.history(k)):
                self.assertIs(tuple, value.__class__)


if __name__ == "__main__":
    unittest.main()
