"""Passages (19, 20): their parts, what is wrong with them, and the new values that they make."""

import itertools
import unittest

from carriedfields.errors import BadPassage, BadRow, BadState, NotNow
from carriedfields.kinds import Carry, Kind
from carriedfields.libraries import Library
from carriedfields.passages import Passage
from samples import ODD, Case, nested_if, nested_maker, shape_in

PAIR = shape_in("a = none", "b = none")
# Fields of all levels, constants and a method.
FULL = shape_in(
    "C = red", "D = none", "a = cls.C", "b = none", "d: 1", "e: 2", "g: 3", "def m(x) -> 1:", "    self.a = x",
    "class heir(k):", "C = blue",
)
OTHER = shape_in("A = blue", "a: 1", "b = blue", "x = none", "y: 1", "z: 2", "def m(q) -> 1:", marks="blue red")


def new_values(values, keep, save, memo):
    """The new values of fields a, b, .. of one kind, told in the words of 20."""
    kept = [value for at, value in enumerate(values) if at in keep]
    new = [None] * len(values)
    copies = []
    for at, value in enumerate(values):
        if at in keep or (at in save and not (isinstance(value, tuple) and isinstance(value[0], int))):
            new[at] = value
        elif at in save:
            earlier = [copy for thing, copy in copies if thing == value and memo]
            if earlier:
                new[at] = earlier[0]
                continue
            number = max(
                number for number in range(-20, 0)
                if (value[0], number) not in kept and (value[0], number) not in [copy for _, copy in copies]
            )
            new[at] = (value[0], number)
            copies.append((value, new[at]))
    return tuple(new)


class PassageCase(Case):
    def check_wrong(self, part, *args, **named):
        self.check_raises(BadPassage, {"part": part}, Passage, *args, **named)

    def check_values(self, passage, values, new):
        """The passage makes these values, in each of its ways."""
        self.assertEqual(repr(new), repr(passage(values)))
        self.assertEqual(repr(new), repr(passage.loaded(passage.saved(values))))


class AttributesTest(PassageCase):
    def test_defaults(self):
        passage = Passage(FULL)
        self.assertIs(FULL, passage.shape)
        self.assertIs(FULL, passage.into)
        told = [passage.keep, passage.save, passage.names, passage.again, passage.memo, passage.when]
        self.assertEqual(repr([(), (), (), (), True, ()]), repr(told))

    def test_attributes(self):
        again = (("let", "w", "red"), ("set", "x", "w"))
        when = ((("self", "a"), "is", None), (("cls", "C"), "!=", "red"))
        passage = Passage(
            shape=FULL, keep=("y", "x"), save=("b", "a"), again=again, memo=False, when=when, into=OTHER,
            names=(("y", "d"), ("x", "b"), ("a", "d"), ("b", "b")),
        )
        self.assertIs(FULL, passage.shape)
        self.assertIs(OTHER, passage.into)
        self.assertEqual(("x", "y"), passage.keep)
        self.assertEqual(("a", "b"), passage.save)
        self.assertEqual((("a", "d"), ("b", "b"), ("x", "b"), ("y", "d")), passage.names)
        self.assertEqual((again, False, when), (passage.again, passage.memo, passage.when))
        self.assertLessEqual({"shape", "into", "keep", "save", "names", "again", "memo", "when"}, set(vars(passage)))

    def test_equality(self):
        parts = [
            {}, {"keep": ("a",)}, {"save": ("a",)}, {"keep": ("a", "b")}, {"keep": ("a",), "save": ("b",)},
            {"again": (("set", "a", None),)}, {"memo": False}, {"when": ((None, "is", None),)},
            {"when": ((None, "==", None),)},
            {"keep": ("a",), "names": (("a", "b"),)}, {"keep": ("a",), "names": (("a", "a"),)},
            {"into": shape_in("a = none", "b = none", "c = none")},
        ]
        passages = [Passage(PAIR, **part) for part in parts]
        passages.append(Passage(shape_in("a = none", "b = red")))
        passages.append(Passage(shape_in("a = none", "b = red"), into=PAIR))
        passages.append(Passage(shape_in("a = none", "b = none", marks="blue red")))
        passages.append(Passage(shape_in("a = none", "b = none", "class b:")))
        passages.append(Passage(shape_in("a = none", "b = none", "class b(k):", name="b")))
        self.check_all_different(passages)
        for part in parts:
            self.check_equal(Passage(PAIR, **part), Passage(shape_in("a = none", "b = none"), **part))
        self.check_equal(Passage(PAIR, keep=("b", "a")), Passage(PAIR, keep=("a", "b"), into=PAIR))
        self.check_equal(
            Passage(PAIR, save=("b", "a"), names=(("b", "a"), ("a", "b"))),
            Passage(PAIR, save=("a", "b"), names=(("a", "b"), ("b", "a"))),
        )
        self.check_foreign(Passage(PAIR))
        self.check_unequal(Passage(PAIR), Passage(PAIR) >> Passage(PAIR))

    def test_arguments_are_not_changed(self):
        keep, save, names = ("b", "a"), ("e", "d"), (("e", "e"), ("b", "b"))
        Passage(FULL, keep=keep, save=save, names=names)
        self.assertEqual((("b", "a"), ("e", "d"), (("e", "e"), ("b", "b"))), (keep, save, names))


class ErrorsTest(PassageCase):
    def test_into(self):
        shapes = [
            shape_in("a = none", "def m():"), shape_in("a = none", marks="red"),
            shape_in("a = none", marks="red blue green"),
            shape_in("a = none", "def m(x):"), shape_in("a = none", "enter m():"), shape_in("a = none", "leave m():"),
            shape_in("a = none", "def m() -> 1:"), shape_in("a = none", "def n():"), shape_in("a = none"),
        ]
        for one, other in itertools.permutations(shapes, 2):
            self.check_wrong("into", one, into=other)
        for shape in shapes:
            self.assertIs(shape, Passage(shape, into=shape).into)
        one, other = shape_in("def m(x):", marks="red blue"), shape_in("b: 1", "def m(y):", "    return y",
                                                                       marks="blue red")
        self.assertIs(other, Passage(one, into=other).into)

    def test_names(self):
        for names in ODD + (
            None, [], [("a", "b")], ("a", "b"), (("a",),), (("a", "b", "b"),), (["a", "b"],), (("a", None),),
            ((None, "a"),),
            (("a", 0),), ((("a",), "a"),), (("a", "A"),), (("A", "a"),), (("a", "none"),), (("a", "c"),), (("c", "a"),),
            (("a", "k"),),
            (("a", "b"), ("a", "a")), (("a", "b"), ("a", "b")), (("a", "b"), ("b", "c")), (("a", "b"), None),
            (("a", "b"), ("b",)), ("ab",),
            (("a", ["b"]),), (("a", True),), (Passage(PAIR), ), (("red", "a"),), ((), ()), (("a", ("self", "b")),),
        ):
            if names != (("a", "b"),):
                self.check_wrong("names", PAIR, keep=("a", "b"), names=names)
                self.check_wrong("names", PAIR, keep=("c",), save=3, again=3, memo=3, when=3, names=names)

    def test_names_between_kinds(self):
        for names in ((("d", "d"),), (("x", "x"),), (("a", "y"),), (("e", "a"),), (("x", "a"), ("y", "z"))):
            self.check_wrong("names", FULL, into=OTHER, names=names)
        # The levels are looked at when the fields are carried.
        self.check_wrong("save", FULL, into=OTHER, names=(("x", "d"),))
        for pair in (("x", "d"), ("y", "a"), ("z", "d"), ("y", "e"), ("a", "a"), ("z", "g")):
            self.check_wrong("keep", FULL, into=OTHER, keep=pair[:1], names=(pair,))
            self.check_wrong("save", FULL, into=OTHER, save=pair[:1], names=(pair,))
        for pair in (("x", "a"), ("y", "d"), ("z", "e"), ("a", "d"), ("b", "a"), ("b", "b")):
            self.assertEqual((pair,), Passage(FULL, into=OTHER, keep=pair[:1], names=(pair,)).names)
            self.assertEqual((pair,), Passage(FULL, into=OTHER, save=pair[:1], names=(pair,)).names)

    def test_keep_and_save(self):
        wrong = ODD + (
            None, [], ["a"], "a", "ab", ("c",), ("a", "a"), ("a", "c"), ("A",), (None,), (("a",),), ("a", None),
            ("a", ["b"]), ("none",), ("k",),
            ("red",), (0,), ("a", True), {"a"}, {}, ("a", "b", "a"), (("self", "a"),), Carry(),
        )
        for fields in wrong:
            if fields != ("a",) and fields != ("a", "b"):
                self.check_wrong("keep", PAIR, keep=fields)
                self.check_wrong("save", PAIR, save=fields)
                self.check_wrong("keep", PAIR, keep=fields, save=fields, again=3, memo=3, when=3)
                self.check_wrong("save", PAIR, keep=("a",), save=fields, again=3, memo=3, when=3)

    def test_fields_that_can_be_carried(self):
        for field in ("a", "d", "e", "g", "C"):
            # OTHER has no such field, or one of another level.
            self.check_wrong("keep", FULL, into=OTHER, keep=(field,))
            self.check_wrong("save", FULL, into=OTHER, save=(field,))
        for field in ("x", "y", "z"):
            self.check_wrong("keep", FULL, into=OTHER, keep=("b", field))
            self.check_wrong("save", FULL, into=OTHER, save=("b", field))
        self.assertEqual(("b",), Passage(FULL, into=OTHER, keep=("b",)).keep)
        self.assertEqual(("b",), Passage(FULL, into=OTHER, save=("b",)).save)

    def test_save_beside_keep_and_names(self):
        self.check_wrong("save", PAIR, keep=("a",), save=("a",))
        self.check_wrong("save", PAIR, keep=("b", "a"), save=("a",))
        self.check_wrong("save", PAIR, keep=("a",), save=("b", "a"))
        self.check_wrong("save", PAIR, names=(("a", "b"),))
        self.check_wrong("save", PAIR, keep=("b",), names=(("a", "b"),))
        self.check_wrong("save", PAIR, save=("b",), names=(("b", "b"), ("a", "b")))
        self.check_wrong("save", PAIR, save=("b",), names=(("a", "a"),), again=3, memo=3, when=3)

    def test_rows_of_again(self):
        for again in ODD + ([], [("set", "a", None)], "set", None, {}):
            if not isinstance(again, tuple):
                self.check_raises(BadRow, {"at": -1}, Passage, PAIR, again=again, memo=3, when=3)
        good = ("set", "a", None)
        for row in (("return", None), ("refuse", None), ("super", None), ("set", "a"), ("set", "a", 0),
                    ["set", "a", None], None, ("let", "A", None)):
            self.check_raises(BadRow, {"at": 0}, Passage, PAIR, again=(row,), memo=3, when=3)
            self.check_raises(BadRow, {"at": 2}, Passage, PAIR, again=(good, good, row, row))
            self.check_raises(BadRow, {"at": 1}, Passage, PAIR, again=(("if", None, "is", None, (row,), ()),))
            # The forms are looked at first.
            self.check_raises(BadRow, {"at": 1}, Passage, PAIR, again=(("set", "z", None), row))
        self.check_raises(BadRow, {"at": 16}, Passage, PAIR, again=(good,) * 17)
        self.check_raises(BadRow, {"at": 5}, Passage, PAIR, again=(nested_if(5, (good,)),))
        self.assertEqual((good,) * 16, Passage(PAIR, again=(good,) * 16).again)
        for odd in ODD:
            self.check_raises(BadRow, {"at": 0}, Passage, PAIR, again=(odd,))

    def test_again_that_is_wrong(self):
        for row in (
            ("set", "z", None), ("set", "a", "x"), ("set", "a", ("self", "z")), ("set", "a", ("cls", "E")),
            ("set", "a", ("page", None)),
            ("set", "d", "red"), ("set", "d", ("page", ("self", "d"))), ("let", "red", None),
            ("let", "w", ("self", "d")), ("let", "w", "v"),
            ("if", ("self", "d"), "==", None, (), ()), ("if", ("self", "d"), "is", "red", (), ()),
            ("if", None, "is", ("self", "d"), (), ()),
            ("set", "g", nested_maker(3, ("self", "d"))), ("set", "d", ("self", "e")),
        ):
            self.check_wrong("again", FULL, again=(row,))
            self.check_wrong("again", FULL, again=(row,), memo=3, when=3)
            self.check_wrong("again", FULL, again=(("set", "a", None), nested_if(3, (row,))))
        rows = (("set", "d", ("page", "w")), ("let", "w", ("cls", "C")), ("set", "e", ("self", "d")),
                ("if", ("self", "d"), "is", None, (), ()))
        self.assertEqual(rows, Passage(FULL, again=rows).again)

    def test_again_is_about_into(self):
        for row in (("set", "x", None), ("set", "y", ("page", ("cls", "A"))), ("set", "a", ("page", None))):
            self.assertEqual((row,), Passage(FULL, into=OTHER, again=(row,)).again)
            self.check_wrong("again", FULL, again=(row,))
        for row in (("set", "d", None), ("set", "a", "red"), ("set", "b", ("cls", "C")), ("set", "a", ("self", "b"))):
            self.check_wrong("again", FULL, into=OTHER, again=(row,))

    def test_memo(self):
        for memo in ODD + (None, "memo", (), 0, 1):
            if not isinstance(memo, bool):
                self.check_wrong("memo", PAIR, memo=memo)
                self.check_wrong("memo", PAIR, memo=memo, when=3)

    def test_when(self):
        for when in ODD + (None, "when", [], [(None, "is", None)], (None, "is", None), (("is",),), ((None, "is"),), {}):
            if when != ():
                self.check_wrong("when", FULL, when=when)
        good = (("self", "a"), "is", None)
        for test in ODD + (
            (), (None, "is"), (None, "is", None, None), [None, "is", None], ("if", None, "is", None, (), ()),
            (None, None, None),
            (None, "isnt", None), (None, "IS", None), (None, ["is"], None), (None, True, None), ("x", "is", None),
            (None, "is", "x"),
            (("self", "z"), "is", None), (None, "is", ("self", "z")), (("cls", "E"), "is", None),
            (None, "is", ("cls", "A")),
            (("page", None), "is", None), (("page", "red"), "is not", None), (None, "==", ("page", None)),
            (("self", "d"), "==", None),
            (("self", "d"), "!=", None), (("self", "d"), "is", "red"), (("self", "d"), "is", ("self", "d")),
            (None, "is", ("self", "d")),
            (("self", "e"), "is not", ("self", "a")), (("self", "a"), "is", ("self", "e")), (["self", "a"], "is", None),
            (0, "is", None),
            (None, "is", False), (True, "is", None), (("self",), "is", None), (("self", "C"), "is", None),
            (("cls", "a"), "is", None),
            (("red", "red"), "is", None), (("self", "a", "b"), "==", None), ("green", "==", None), ("k", "is", None),
            ("m", "is", None),
        ):
            self.check_wrong("when", FULL, when=(test,))
            self.check_wrong("when", FULL, when=(good, test, good))

    def test_right_tests(self):
        for one, other in itertools.product((None, "red", "blue", ("self", "a"), ("self", "b"), ("cls", "C"),
                                             ("cls", "D")), repeat=2):
            for sign in ("is", "is not", "==", "!="):
                self.assertEqual(((one, sign, other),), Passage(FULL, when=((one, sign, other),)).when)
        for field in ("d", "e", "g"):
            for sign in ("is", "is not"):
                test = (("self", field), sign, None)
                self.assertEqual((test, test), Passage(FULL, when=(test, test)).when)

    def test_tests_are_about_shape(self):
        for test in ((("self", "d"), "is", None), (("self", "a"), "==", "red"), (("cls", "C"), "is", None)):
            self.assertEqual((test,), Passage(FULL, into=OTHER, when=(test,)).when)
        for test in ((("self", "x"), "is", None), (("self", "y"), "is", None), (("cls", "A"), "is", None)):
            self.check_wrong("when", FULL, into=OTHER, when=(test,))

    def test_several_errors_at_once(self):
        unlike = shape_in("a = none", "b = none", "def m():")
        self.check_wrong("into", PAIR, keep=3, save=3, again=3, memo=3, when=3, into=unlike, names=3)
        self.check_wrong("names", PAIR, keep=3, save=3, again=3, memo=3, when=3, names=3)
        self.check_wrong("keep", PAIR, keep=3, save=3, again=3, memo=3, when=3)
        self.check_wrong("save", PAIR, save=3, again=3, memo=3, when=3)
        self.check_raises(BadRow, {"at": -1}, Passage, PAIR, again=3, memo=3, when=3)
        self.check_wrong("again", PAIR, again=(("set", "z", None),), memo=3, when=3)
        self.check_wrong("memo", PAIR, memo=3, when=3)
        self.check_wrong("when", PAIR, when=3)


class ValuesTest(PassageCase):
    def test_kept_saved_and_other_fields(self):
        firsts = shape_in("A = red", "a = cls.A", "b = none", "c = blue", "d: 1", "e: 1")
        values = ((5, 3), (6, -4), None, ("page", 1), ("leaf", 2, "red"))
        self.check_values(Passage(firsts), values, ("red", None, "blue", None, None))
        self.check_values(Passage(firsts, keep=("a", "b", "c", "d", "e")), values, values)
        self.check_values(
            Passage(firsts, save=("a", "b", "c", "d", "e")), values,
            ((5, -1), (6, -1), None, ("page", 1), ("leaf", 2, "red")),
        )
        self.check_values(Passage(firsts, keep=("b", "e"), save=("a",)), values,
                          ((5, -1), (6, -4), "blue", None, ("leaf", 2, "red")))
        values = ("blue", "red", "red", None, None)
        self.check_values(Passage(firsts, keep=("a",), save=("b", "d")), values, ("blue", "red", "blue", None, None))

    def test_all_values_of_three_fields(self):
        shape = shape_in("a = none", "b = none", "c = none")
        some = (None, "red", (5, 0), (5, 1), (5, -1), (5, -2), (6, -1))
        for ways in itertools.product(("keep", "save", "none"), repeat=3):
            keep = [at for at, way in enumerate(ways) if way == "keep"]
            save = [at for at, way in enumerate(ways) if way == "save"]
            for memo in (True, False):
                passage = Passage(shape, keep=tuple("abc"[at] for at in keep), save=tuple("abc"[at] for at in save),
                                  memo=memo)
                for values in itertools.product(some, repeat=3):
                    new = new_values(values, keep, save, memo)
                    self.assertEqual(new, passage(values))

    def test_the_same_thing_with_a_memo_and_without(self):
        shape = shape_in("a = none", "b = none", "c = none", "d = none", "e = none")
        values = ((5, 0), (5, 1), (5, 0), (6, 0), (5, 1))
        save = ("a", "b", "c", "d", "e")
        self.check_values(Passage(shape, save=save), values, ((5, -1), (5, -2), (5, -1), (6, -1), (5, -2)))
        self.check_values(Passage(shape, save=save, memo=False), values, ((5, -1), (5, -2), (5, -3), (6, -1), (5, -4)))
        self.check_values(Passage(shape, save=("c", "e"), keep=("a", "b")), values,
                          ((5, 0), (5, 1), (5, -1), None, (5, -2)))

    def test_numbers_of_kept_copies_are_left_out(self):
        shape = shape_in("a = none", "b = none", "c = none", "d = none", "e = none")
        passage = Passage(shape, save=("a", "c"), keep=("b", "d", "e"))
        values = ((5, 0), (5, -1), (5, 1), (5, -3), (6, -2))
        self.check_values(passage, values, ((5, -2), (5, -1), (5, -4), (5, -3), (6, -2)))
        self.check_values(passage, ((6, 0), (5, -1), (6, 1), (5, -3), (6, -2)),
                          ((6, -1), (5, -1), (6, -3), (5, -3), (6, -2)))
        # What is not kept does not count, nor do own numbers, and what is saved may be a copy already.
        self.check_values(Passage(shape, save=("a",)), ((5, -1), (5, -1), None, None, None),
                          ((5, -1), None, None, None, None))
        self.check_values(Passage(shape, save=("a", "b")), ((5, -7), (5, -1), None, None, None),
                          ((5, -1), (5, -2), None, None, None))
        self.check_values(Passage(shape, save=("a",), keep=("b",)), ((5, -1), (5, -1), None, None, None),
                          ((5, -2), (5, -1), None, None, None))
        self.check_values(Passage(shape, save=("a",), keep=("b",)), ((5, 1), (5, 1), None, None, None),
                          ((5, -1), (5, 1), None, None, None))

    def test_names(self):
        values = ((5, 0), (6, 0))
        self.check_values(Passage(PAIR, keep=("a",), names=(("a", "b"),)), values, ((6, 0), None))
        self.check_values(Passage(PAIR, keep=("a", "b"), names=(("a", "b"),)), values, ((6, 0), (6, 0)))
        self.check_values(Passage(PAIR, keep=("a", "b"), names=(("a", "b"), ("b", "a"))), values, ((6, 0), (5, 0)))
        self.check_values(Passage(PAIR, save=("a", "b"), names=(("b", "a"),)), values, ((5, -1), (5, -1)))
        self.check_values(Passage(PAIR, save=("a", "b"), names=(("b", "a"),), memo=False), values, ((5, -1), (5, -2)))
        self.check_values(Passage(PAIR, keep=("a",), save=("b",), names=(("b", "a"),)), ((5, -1), None),
                          ((5, -1), (5, -2)))

    def test_another_kind(self):
        passage = Passage(FULL, keep=("x", "z"), save=("b", "a"), into=OTHER,
                          names=(("x", "a"), ("z", "e"), ("a", "d")))
        values = ((5, -1), (5, 2), ("page", 1), ("page", ("leaf", 2)), None)
        self.check_values(passage, values, (("page", 1), (5, -2), (5, -1), None, ("page", ("leaf", 2))))
        self.check_values(Passage(FULL, into=OTHER), values, (None, "blue", None, None, None))

    def test_copies_are_numbered_in_the_order_of_the_fields_of_into(self):
        passage = Passage(PAIR, save=("b", "a"), names=(("a", "b"), ("b", "a")))
        self.check_values(passage, ((5, 0), (5, 1)), ((5, -1), (5, -2)))
        self.assertEqual([(5, 0), (5, 1)], [passage.saved(((5, 0), (5, 1)))[field] for field in "ab"])

    def test_rows_of_again(self):
        shape = shape_in("C = red", "a = none", "b = none", "c = blue", "d: 1", "class heir(k):", "C = blue")
        again = (
            ("let", "w", ("self", "a")), ("set", "a", ("self", "b")), ("set", "b", "w"), ("set", "c", ("cls", "C")),
            ("if", ("self", "d"), "is", None, (("set", "d", ("page", ("self", "a"), "v")),), (("let", "v", "w"),)),
        )
        values = ((5, 0), (6, 0), (7, 0), None)
        self.check_values(Passage(shape, keep=("a", "b", "c"), again=again), values,
                          ((6, 0), (5, 0), "red", ("page", 6, None)))
        heir = shape.library["heir"]
        self.check_values(Passage(heir, save=("a",), again=again), values,
                          (None, (5, -1), "blue", ("page", None, None)))
        self.check_values(Passage(shape, keep=("d",), again=again), values[:3] + (("leaf", 1),),
                          (None, None, "red", ("leaf", 1)))
        # The rows work on the new object.
        self.check_values(Passage(shape, again=(("set", "b", ("self", "c")),)), values, (None, "blue", "blue", None))

    def test_again_into_another_kind(self):
        again = (("set", "x", ("cls", "A")), ("if", ("self", "b"), "==", "blue",
                                              (("set", "y", ("page", ("self", "b"))),), ()))
        self.check_values(Passage(FULL, into=OTHER, again=again), (None, None, None, None, None),
                          (None, "blue", "blue", ("page", "blue"), None))
        self.check_values(
            Passage(FULL, into=OTHER, again=again, keep=("b",)), (None, "red", None, None, None),
            (None, "red", "blue", None, None),
        )

    def test_constants_of_the_kind_itself(self):
        library = FULL.library
        again = (("set", "b", ("cls", "C")),)
        self.check_values(Passage(library["heir"], again=again), (None,) * 5, ("blue", "blue", None, None, None))
        self.check_values(Passage(FULL, again=again), (None,) * 5, ("red", "red", None, None, None))
        self.check_values(Passage(FULL, into=library["heir"], again=again), (None,) * 5,
                          ("blue", "blue", None, None, None))

    def test_values_and_passages_are_not_changed(self):
        passage = Passage(PAIR, save=("a",), again=(("set", "b", ("self", "a")),))
        values = ((5, 0), None)
        before = repr(vars(passage))
        self.assertEqual(((5, -1), (5, -1)), passage(values=values))
        self.assertEqual(((5, -1), (5, -1)), passage(values))
        self.assertEqual(before, repr(vars(passage)))
        self.assertEqual(((5, 0), None), values)


class WhenTest(PassageCase):
    def test_each_sign(self):
        things = [None, "red", "blue", (5, 0), (5, 1), (6, 0), (5, -1)]
        for one, other in itertools.product(things, repeat=2):
            same = one == other
            agree = same or (isinstance(one, tuple) and isinstance(other, tuple) and one[0] == other[0])
            for sign, holds in (("is", same), ("is not", not same), ("==", agree), ("!=", not agree)):
                passage = Passage(PAIR, keep=("a", "b"), when=((("self", "a"), sign, ("self", "b")),))
                if holds:
                    self.check_values(passage, (one, other), (one, other))
                else:
                    self.check_raises(NotNow, {"name": "pass"}, passage, (one, other))
                    self.check_raises(NotNow, {"name": "pass"}, passage.saved, (one, other))

    def test_marks_none_constants_and_derived_values(self):
        for test, right, wrong in (
            ((("self", "a"), "is", "red"), ("red", None, None), ("blue", None, None)),
            (("red", "!=", ("self", "a")), ((5, 5), None, None), ("red", None, None)),
            ((None, "==", ("self", "b")), ("red", None, None), ("red", "red", None)),
            ((("cls", "C"), "is", ("self", "b")), (None, "blue", None), (None, "red", None)),
            ((("self", "d"), "is", None), (None, None, None), (None, None, ("page", 1))),
            ((("self", "d"), "is not", None), (None, None, ("page", None)), (None, None, None)),
        ):
            shape = shape_in("C = blue", "a = none", "b = none", "d: 1")
            passage = Passage(shape, keep=("a",), when=(test,))
            self.check_values(passage, right, (right[0], None, None))
            self.check_raises(NotNow, {"name": "pass"}, passage, wrong)

    def test_tests_without_fields(self):
        for test, holds in ((("red", "is", "red"), True), (("red", "==", "blue"), False),
                            ((None, "is not", "red"), True)):
            passage = Passage(PAIR, when=(test,))
            if holds:
                self.check_values(passage, (None, None), (None, None))
            else:
                self.check_raises(NotNow, {"name": "pass"}, passage, (None, None))

    def test_all_tests_hold(self):
        tests = ((("self", "a"), "is", None), (("self", "b"), "is not", None), (("self", "b"), "!=", "red"))
        passage = Passage(PAIR, keep=("b",), when=tests)
        for one, other in itertools.product((None, "red", (5, 1)), repeat=2):
            if one is None and other == (5, 1):
                self.check_values(passage, (one, other), (None, other))
            else:
                self.check_raises(NotNow, {"name": "pass"}, passage, (one, other))

    def test_tests_look_at_the_old_object(self):
        passage = Passage(PAIR, again=(("set", "a", "red"),), when=((("self", "a"), "is", "blue"),))
        self.check_values(passage, ("blue", None), ("red", None))
        self.check_raises(NotNow, {"name": "pass"}, passage, ("red", None))
        one = shape_in("C = red", "a = none")
        other = shape_in("C = blue", "a = none")
        passage = Passage(one, into=other, keep=("a",), when=((("self", "a"), "is", ("cls", "C")),))
        self.check_values(passage, ("red",), ("red",))
        self.check_raises(NotNow, {"name": "pass"}, passage, ("blue",))

    def test_bad_state_comes_first(self):
        passage = Passage(PAIR, when=(("red", "is", "blue"),))
        for values in ((None,), [None, None], ("green", None), ((True, 0), None), 3):
            self.check_raises(BadState, {"given": values}, passage, values)
            self.check_raises(BadState, {"given": values}, passage.saved, values)
        self.check_raises(NotNow, {"name": "pass"}, passage, (None, None))


class LegsTest(PassageCase):
    def test_one_leg(self):
        self.assertEqual(1, len(Passage(PAIR)))
        self.assertEqual(1, len(Passage(Library(Kind("a"))["a"])))
        self.assertTrue(Passage(PAIR))


if __name__ == "__main__":
    unittest.main()
