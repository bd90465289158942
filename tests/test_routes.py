"""Routes, and the passage of a kind by its classes' own carries (21)."""

import itertools
import unittest

from carriedfields.errors import BadPassage, BadRow, BadState, NotNow
from carriedfields.kinds import Carry, Kind
from carriedfields.libraries import Library
from carriedfields.passages import Passage, Route
from samples import ODD, Case, plain_fields, shape_in, sheet_library

ONE = shape_in("a = none", "b = none")
TWO = shape_in("a = none", "c = red", "d: 1")
THREE = shape_in("e = none")


class RoutesTest(Case):
    def setUp(self):
        self.first = Passage(ONE, keep=("a",), save=("c",), into=TWO, names=(("c", "b"),))
        self.second = Passage(TWO, save=("e",), into=THREE, names=(("e", "c"),), when=((("self", "a"), "is", None),))
        self.third = Passage(THREE, into=ONE, keep=("b",), names=(("b", "e"),), when=((("self", "e"), "is not", None),))

    def test_legs(self):
        route = self.first >> self.second
        self.assertIs(Route, route.__class__)
        self.assertIs(tuple, route.legs.__class__)
        self.assertEqual([self.first, self.second], list(route.legs))
        self.assertEqual((ONE, THREE), (route.shape, route.into))
        self.assertEqual(2, len(route))
        self.assertEqual(len(route.legs), 2)

    def test_routes_of_routes(self):
        legs = [self.first, self.second, self.third, self.first]
        routes = [
            self.first >> self.second >> self.third >> self.first,
            self.first >> (self.second >> (self.third >> self.first)),
            (self.first >> self.second) >> (self.third >> self.first),
            self.first >> (self.second >> self.third) >> self.first,
        ]
        for route in routes:
            self.assertEqual(legs, list(route.legs))
            self.assertEqual(4, len(route))
            self.check_equal(routes[0], route)
            self.check_equal(route.shape, ONE)
            self.check_equal(route.into, TWO)

    def test_equality(self):
        again = Passage(ONE, keep=("a",), save=("c",), into=TWO, names=(("c", "b"),))
        self.check_equal(self.first >> self.second, again >> self.second)
        stay = Passage(ONE)
        kept = Passage(ONE, keep=("a",))
        routes = [stay >> stay, stay >> kept, kept >> stay, kept >> kept, stay >> stay >> stay, stay >> stay >> kept]
        self.check_all_different(routes)
        for route in routes:
            self.check_foreign(route)
            self.check_unequal(route, route.legs)
            self.check_unequal(route, route.legs[0])

    def test_legs_that_do_not_fit(self):
        for one, other in itertools.product((self.first, self.second, self.third), repeat=2):
            fits = one.into == other.shape
            routes = [(one, other), (Passage(one.shape) >> one, other), (one, other >> Passage(other.into))]
            for left, right in routes:
                if fits:
                    self.assertEqual(len(left) + len(right), len(left >> right))
                else:
                    self.check_raises(BadPassage, {"part": "legs"}, lambda left=left, right=right: left >> right)

    def test_shapes_that_are_equal_fit(self):
        other = Passage(shape_in("a = none", "b = none"), keep=("b",))
        self.assertEqual(2, len(Passage(ONE) >> other))
        for lines in (("a = none", "b = red"), ("a = none", "b: 1"), ("a = none", "b = none", "class x:")):
            self.check_raises(BadPassage, {"part": "legs"},
                              lambda lines=lines: Passage(ONE) >> Passage(shape_in(*lines)))

    def test_values(self):
        route = self.first >> self.second
        self.assertEqual(((5, -1),), route((None, (5, 3))))
        self.assertEqual(("red",), route(values=(None, "red")))
        self.check_raises(NotNow, {"name": "pass"}, route, ("red", (5, 3)))
        route = route >> self.third
        self.assertEqual((None, (5, -1)), route((None, (5, 3))))
        # The third leg is not possible for what the second one gives.
        self.check_raises(NotNow, {"name": "pass"}, route, (None, None))
        self.check_raises(NotNow, {"name": "pass"}, route, ("red", "red"))
        self.assertEqual((None, (5, -1), None), (route >> self.first)((None, (5, 3))))

    def test_each_leg_makes_copies(self):
        swap = Passage(ONE, save=("a",), keep=("b",), names=(("a", "b"), ("b", "a")))
        values = ((5, 0), (5, 0))
        self.assertEqual(((5, -1), (5, 0)), swap(values))
        self.assertEqual(((5, -2), (5, -1)), swap(((5, -1), (5, 0))))
        self.assertEqual(swap(swap(values)), (swap >> swap)(values))
        self.assertEqual(swap(swap(swap(values))), (swap >> swap >> swap)(values))

    def test_bad_state(self):
        route = self.first >> self.second
        for values in ODD + (None, (), (None,), (None, None, None), [None, None], ("green", None), (None, (True, 0)),
                             (None, ("page", 1))):
            self.check_raises(BadState, {"given": values}, route, values)
        passage = Passage(ONE, when=(("red", "is", "blue"),))
        self.check_raises(BadState, {"given": 3}, passage >> passage, 3)
        self.check_raises(NotNow, {"name": "pass"}, passage >> passage, (None, None))

    def test_nothing_is_changed(self):
        before = [repr(vars(leg)) for leg in (self.first, self.second)]
        route = self.first >> self.second
        route((None, None))
        self.assertEqual(before, [repr(vars(leg)) for leg in (self.first, self.second)])


class OfTest(Case):
    def check_of(self, shape, keep=(), save=(), again=()):
        passage = Passage.of(shape)
        told = [passage.keep, passage.save, passage.again, passage.names, passage.memo, passage.when]
        self.assertEqual(repr([keep, save, again, (), True, ()]), repr(told))
        self.assertIs(shape, passage.shape)
        self.assertIs(shape, passage.into)
        self.assertIs(Passage, passage.__class__)
        if len(again) <= 16:
            self.check_equal(Passage(shape, keep=keep, save=save, again=again), passage)
        return passage

    def test_example(self):
        shape = sheet_library()["sheet"]
        passage = self.check_of(shape, save=("item", "style"))
        self.assertEqual(((5, -1), None, "done"), passage(((5, 0), ("page", 5, "draft"), "done")))

    def test_kinds_without_a_carry(self):
        self.check_of(shape_in("b = none", "a: 1", "c = red"), keep=("a", "b", "c"))
        self.check_of(shape_in("def m():"))
        library = Library(Kind("a", fields=plain_fields("xy")), Kind("b", "a", fields=plain_fields("z")))
        self.check_of(library["b"], keep=("x", "y", "z"))
        values = ((5, -1), (5, 0), "red")
        shape = shape_in("a = none", "b = none", "c = none")
        self.assertEqual(values, Passage.of(shape)(values))

    def test_a_carry_that_says_nothing(self):
        self.check_of(shape_in("a = none", "b = none", "carry:"))
        self.check_of(shape_in("a = none", "b = none", "carry alone:"))

    def test_one_carry(self):
        shape = shape_in("a = none", "b = none", "c = none", "d = none", "carry:", "    keep d b", "    save c",
                         "    self.a = b", "    b = none")
        self.check_of(shape, keep=("b", "d"), save=("c",), again=(("set", "a", "b"), ("let", "b", None)))

    def test_the_base_s_carry(self):
        lines = ("a = none", "b = none", "carry:", "    keep a", "    self.b = red", "class h(k):", "c = none")
        self.check_of(shape_in(*lines, name="h"), keep=("a",), again=(("set", "b", "red"),))

    def test_several_carries(self):
        lines = (
            "a = none", "b = none", "c = none", "carry:", "    keep a b", "    save c", "    self.a = red",
            "    w = red", "class h(k):", "d = none",
            "carry:", "    keep c d", "    save a", "    w = none", "    self.a = w", "    self.b = blue",
        )
        again = (("set", "a", "red"), ("let", "w", "red"), ("let", "w", None), ("set", "a", "w"), ("set", "b", "blue"))
        passage = self.check_of(shape_in(*lines, name="h"), keep=("b", "c", "d"), save=("a",), again=again)
        self.assertEqual((None, "blue", (2, 2), None), passage((None, None, (2, 2), None)))

    def test_local_variables_are_those_of_one_body(self):
        # The base's row gives w a value, which the heir's row reads, although it gives w a value only later.
        lines = (
            "a = none", "b = none", "carry:", "    keep b", "    w = self.b", "class h(k):", "carry:", "    self.a = w",
            "    w = red",
        )
        passage = self.check_of(shape_in(*lines, name="h"), keep=("b",), again=(
            ("let", "w", ("self", "b")), ("set", "a", "w"), ("let", "w", "red"),
        ))
        self.assertEqual(((4, 4), (4, 4)), passage((None, (4, 4))))

    def test_the_first_carry_that_does_not_say_more_is_the_last_one(self):
        base = ["a = none", "b = none", "c = none", "carry:", "    keep a", "    self.c = red"]
        for middle, heir, keep, save, again in (
            ("carry alone:", "carry:", ("c",), ("b",), (("set", "c", "blue"), ("set", "c", None))),
            ("carry:", "carry alone:", ("c",), (), (("set", "c", None),)),
            ("carry alone:", "carry alone:", ("c",), (), (("set", "c", None),)),
            ("carry:", "carry:", ("a", "c"), ("b",), (("set", "c", "red"), ("set", "c", "blue"), ("set", "c", None))),
        ):
            lines = base + ["class m(k):", middle, "    save b c", "    self.c = blue", "class h(m):", heir,
                            "    keep c", "    self.c = none"]
            self.check_of(shape_in(*lines, name="h"), keep, save, again)

    def test_a_carry_alone_of_the_last_kind(self):
        lines = ("a = none", "b = none", "carry alone:", "    keep a", "class h(k):", "carry:", "    save b")
        self.check_of(shape_in(*lines, name="h"), keep=("a",), save=("b",))
        self.check_of(shape_in(*lines), keep=("a",))

    def test_kinds_without_a_carry_are_passed_over(self):
        lines = (
            "a = none", "b = none", "carry:", "    save a b", "class m(k):", "class n(m):", "carry:", "    keep a",
            "class h(n):", "c = none",
        )
        self.check_of(shape_in(*lines, name="h"), keep=("a",), save=("b",))
        self.check_of(shape_in(*lines, name="m"), save=("a", "b"))

    def test_the_kinds_are_visited_in_the_order_of_the_line(self):
        lines = (
            "a = none", "b = none", "carry:", "    keep a b", "    self.b = none", "class l(k):", "carry:",
            "    save a", "    self.b = red",
            "class r(k):", "carry:", "    keep a", "    save b", "    self.b = blue", "class h(r, l):",
        )
        again = (("set", "b", None), ("set", "b", "red"), ("set", "b", "blue"))
        self.check_of(shape_in(*lines, name="h"), keep=("a",), save=("b",), again=again)
        lines = lines[:-1] + ("class h(l, r):",)
        again = (("set", "b", None), ("set", "b", "blue"), ("set", "b", "red"))
        self.check_of(shape_in(*lines, name="h"), save=("a", "b"), again=again)

    def test_more_than_sixteen_rows(self):
        rows = (("set", "a", None),) * 10
        base = Kind("a", fields=plain_fields("ab"), carry=Carry(save=("a",), again=rows))
        heir = Kind("b", "a", carry=Carry(keep=("b",), again=rows[:9] + (("set", "a", "red"),)))
        shape = Library(base, heir, marks=("red",))["b"]
        passage = self.check_of(shape, keep=("b",), save=("a",), again=rows + rows[:9] + (("set", "a", "red"),))
        self.assertEqual(("red", (1, 0)), passage(((1, 0), (1, 0))))
        self.check_equal(passage, Passage.of(shape))
        self.check_raises(BadRow, {"at": 16}, Passage, shape, again=passage.again)
        self.assertEqual("a=1#0; b=1@0", str(passage.saved(((1, 0), (1, 0)))))

    def test_memo_and_when(self):
        shape = shape_in("a = none", "b = none", "carry:", "    save a b", "    self.b = none")
        tests = ((("self", "a"), "is not", None),)
        passage = Passage.of(shape, memo=False, when=tests)
        self.check_equal(Passage(shape, save=("a", "b"), again=(("set", "b", None),), memo=False, when=tests), passage)
        self.assertEqual((False, tests), (passage.memo, passage.when))
        self.check_raises(NotNow, {"name": "pass"}, passage, (None, None))
        self.check_unequal(passage, Passage.of(shape, when=tests))
        self.check_unequal(passage, Passage.of(shape=shape, memo=False))

    def test_errors(self):
        for shape in (shape_in("a = none"), shape_in("a = none", "carry:", "    save a")):
            for odd in ODD + (None, (), [], 0, 1):
                if not isinstance(odd, bool):
                    self.check_raises(BadPassage, {"part": "memo"}, Passage.of, shape, memo=odd)
                    self.check_raises(BadPassage, {"part": "memo"}, Passage.of, shape, memo=odd, when=3)
                if odd != ():
                    self.check_raises(BadPassage, {"part": "when"}, Passage.of, shape, when=odd)
            for test in ((("self", "z"), "is", None), ("x", "is", None), (("page", None), "is", None),
                         (None, "=", None), [None, "is", None]):
                self.check_raises(BadPassage, {"part": "when"}, Passage.of, shape, when=(test,))


if __name__ == "__main__":
    unittest.main()
