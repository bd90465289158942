"""Saved states (22): their entries, how they are written and read, and what is made of them."""

import itertools
import unittest

from carriedfields.errors import BadSaved, BadState, NoField, NotNow
from carriedfields.passages import Passage, Saved
from samples import ODD, ODD_WORDS, Case, nested_maker, shape_in

PAIR = shape_in("a = none", "b = none")
FULL = shape_in("a = none", "b = none", "d: 1", "e: 2", "g: 3")
BIG = 10 ** 100 - 1


def is_thing(value):
    return isinstance(value, tuple) and isinstance(value[0], int)


class SavedCase(Case):
    def check_written(self, passage, values, text):
        """The saved state of these values is written so, and read from there; returns it."""
        saved = passage.saved(values)
        self.assertEqual(text, str(saved))
        again = Saved.read(passage, text)
        self.check_equal(saved, again)
        self.assertEqual(text, str(again))
        for field in saved.fields:
            self.assertEqual(repr(saved[field]), repr(again[field]))
        self.assertEqual(repr(passage.loaded(saved)), repr(passage.loaded(again)))
        self.assertEqual(repr(passage(values)), repr(passage.loaded(saved)))
        return saved

    def check_bad(self, at, passage, text):
        self.check_raises(BadSaved, {"at": at}, Saved.read, passage, text)

    def check_read(self, passage, text, *entries):
        """The text is right, with these entries."""
        saved = Saved.read(passage, text)
        self.assertEqual(repr(entries), repr(tuple(saved[field] for field in saved.fields)))
        self.assertEqual(text, str(saved))


class EntriesTest(SavedCase):
    def test_example(self):
        passage = Passage(PAIR, save=("a", "b"))
        saved = self.check_written(passage, ((7, 2), (7, 2)), "a=7#0; b=7#0")
        self.assertEqual([(7, 0), (7, 0)], [saved["a"], saved["b"]])
        self.assertEqual(((7, -1), (7, -2)), passage(((7, 2), (7, 3))))

    def test_attributes(self):
        passage = Passage(FULL, keep=("g", "b"), save=("e", "a"))
        saved = passage.saved(((5, 1), (6, -2), None, None, None))
        self.assertIs(passage, saved.passage)
        self.assertEqual(repr(("a", "b", "e", "g")), repr(saved.fields))
        self.assertIs(Saved, saved.__class__)
        self.assertEqual(4, len(saved))
        read = Saved.read(passage=passage, text=str(saved))
        self.assertIs(passage, read.passage)
        self.assertEqual(("a", "b", "e", "g"), read.fields)
        self.assertEqual(0, len(Passage(FULL).saved((None,) * 5)))
        self.assertEqual((), Passage(FULL).saved((None,) * 5).fields)

    def test_entries(self):
        passage = Passage(FULL, keep=("g", "b"), save=("d", "a"))
        values = ((5, 1), (6, -2), ("page", 4), ("leaf", None), nested_maker(3, "red"))
        saved = passage.saved(values)
        told = {"a": (5, 0), "b": (6, -2), "d": ("page", 4), "g": nested_maker(3, "red")}
        for field, entry in told.items():
            self.assertIs(True, field in saved)
            self.assertEqual(repr(entry), repr(saved[field]))
        self.assertIs(False, "e" in saved)
        saved = passage.saved((None, "red", None, None, None))
        self.assertEqual([None, "red", None, None], [saved[field] for field in "abdg"])
        saved = passage.saved(("blue", None, None, None, None))
        self.assertEqual(["blue", None], [saved[field] for field in "ab"])

    def test_no_field(self):
        saved = Passage(FULL, keep=("b",), save=("a",)).saved((None,) * 5)
        for field in ODD_WORDS + ("d", "e", "g", "c", ("self", "a"), ["a"], 0, 1, "A", "ab", b"a", "a ", saved,
                                  slice(0, 1), "red"):
            if field != "a" and field != "b":
                self.assertIs(False, field in saved)
                self.check_raises(NoField, {"name": field}, lambda field=field: saved[field])

    def test_it_is_not_iterated_over(self):
        with self.assertRaises(TypeError):
            iter(Passage(PAIR, keep=("a",)).saved((None, None)))

    def test_copies_are_counted_over_all_contents(self):
        shape = shape_in("a = none", "b = none", "c = none", "d = none", "e = none")
        values = ((5, 0), (6, 0), (5, 0), (5, 1), (6, 0))
        save = ("a", "b", "c", "d", "e")
        self.check_written(Passage(shape, save=save), values, "a=5#0; b=6#1; c=5#0; d=5#2; e=6#1")
        self.check_written(Passage(shape, save=save, memo=False), values, "a=5#0; b=6#1; c=5#2; d=5#3; e=6#4")
        self.check_written(Passage(shape, save=("b", "c", "e"), keep=("a",)), values, "a=5@0; b=6#0; c=5#1; e=6#0")
        self.check_written(Passage(shape, save=("a", "d"), keep=("c",)), (None, None, (5, -1), (5, -2), None),
                           "a=none; c=5@-1; d=5#0")

    def test_names(self):
        passage = Passage(PAIR, save=("a", "b"), names=(("a", "b"), ("b", "b")))
        self.check_written(passage, ((5, 0), (6, 0)), "a=6#0; b=6#0")
        passage = Passage(PAIR, save=("a", "b"), names=(("a", "b"), ("b", "b")), memo=False)
        self.check_written(passage, ((5, 0), (6, 0)), "a=6#0; b=6#1")
        other = shape_in("x = none", "y: 1", marks="blue red")
        passage = Passage(FULL, keep=("x",), save=("y",), into=other, names=(("y", "d"), ("x", "b")))
        saved = self.check_written(passage, (None, (3, -3), ("page", "red"), None, None), "x=3@-3; y=page(red)")
        self.assertEqual(("x", "y"), saved.fields)

    def test_all_pairs_of_values(self):
        some = (None, "red", (5, 0), (5, 1), (5, -1), (0, -2), (BIG, BIG), (BIG, -BIG))
        for ways in itertools.product(("keep", "save", "none"), repeat=2):
            for memo in (True, False):
                keep = tuple(field for field, way in zip("ab", ways) if way == "keep")
                save = tuple(field for field, way in zip("ab", ways) if way == "save")
                passage = Passage(PAIR, keep=keep, save=save, memo=memo)
                for values in itertools.product(some, repeat=2):
                    parts = []
                    things = []
                    for field, way, value in zip("ab", ways, values):
                        if way != "none" and not is_thing(value):
                            parts.append(f"{field}={'none' if value is None else value}")
                        elif way == "keep":
                            parts.append(f"{field}={value[0]}@{value[1]}")
                        elif way == "save":
                            if not memo or value not in things:
                                things.append(value)
                            parts.append(f"{field}={value[0]}#{things.index(value) if memo else len(things) - 1}")
                    self.check_written(passage, values, "; ".join(parts))

    def test_derived_values(self):
        passage = Passage(FULL, keep=("d", "g"), save=("e",))
        values = (
            None, None, ("page", None, "red"), ("page", ("leaf", 0), BIG),
            ("page", ("leaf", ("a", "blue", None), ("b", 0)), ("leaf", 12, ("c", ("red")))),
        )
        text = f"d=page(none,red); e=page(leaf(0),{BIG}); g=page(leaf(a(blue,none),b(0)),leaf(12,c(red)))"
        self.check_written(passage, values, text)
        self.check_written(passage, (None,) * 5, "d=none; e=none; g=none")

    def test_nothing_is_carried(self):
        passage = Passage(PAIR)
        saved = self.check_written(passage, ((5, 0), "red"), "")
        self.assertEqual((None, None), passage.loaded(saved))
        self.assertTrue(saved == passage.saved((None, None)))

    def test_equality(self):
        passage = Passage(PAIR, save=("a", "b"))
        kept = Passage(PAIR, keep=("a", "b"))
        states = [
            passage.saved(values) for values in (((7, 0), (7, 0)), ((7, 0), (7, 1)), ((7, 0), (8, 1)), (None, (7, 0)),
                                                 ((7, 0), None), (None, "red"))
        ] + [kept.saved(values) for values in (((7, 0), (7, 0)), ((7, 0), (7, 1)), ((7, 1), (7, 1)), (None, (7, 0)),
                                               (None, "red"))]
        states.append(Passage(PAIR, save=("a", "b"), memo=False).saved((None, "red")))
        states.append(Passage(PAIR, save=("a",)).saved((None, "red")))
        self.check_all_different(states)
        for state in states:
            self.check_foreign(state)
            self.check_unequal(state, str(state))
        self.check_equal(passage.saved(((7, 5), (7, 6))), passage.saved(((7, 0), (7, 1))))
        self.check_equal(passage.saved(((7, 5), None)), Passage(PAIR, save=("b", "a")).saved(((7, -5), None)))

    def test_errors_of_saved(self):
        passage = Passage(PAIR, when=((("self", "a"), "is not", None),))
        for values in ODD + ((), (None,), [None, None], ("green", None)):
            self.check_raises(BadState, {"given": values}, passage.saved, values)
        self.check_raises(NotNow, {"name": "pass"}, passage.saved, (None, "red"))
        self.assertEqual("", str(passage.saved(values=("red", None))))


class LoadedTest(SavedCase):
    def test_tests_are_not_looked_at(self):
        passage = Passage(PAIR, keep=("a",), when=((("self", "a"), "is not", None),))
        self.assertEqual((None, None), passage.loaded(Saved.read(passage, "a=none")))
        self.assertEqual(((3, 1), None), passage.loaded(saved=Saved.read(passage, "a=3@1")))

    def test_another_passage(self):
        one = Passage(PAIR, keep=("a",))
        for other in (
            Passage(PAIR, save=("a",)), Passage(PAIR, keep=("a",), memo=False), Passage(PAIR, keep=("a", "b")),
            Passage(PAIR, keep=("b",)),
            Passage(shape_in("a = none", "b = red"), keep=("a",)),
            Passage(PAIR, keep=("a",), again=(("set", "b", None),)),
            Passage(PAIR, keep=("a",), when=((None, "is", None),)), Passage(PAIR, keep=("a",), names=(("a", "a"),)),
        ):
            self.check_raises(BadSaved, {"at": -1}, one.loaded, other.saved((None, None)))
            self.check_raises(BadSaved, {"at": -1}, other.loaded, one.saved((None, None)))
        twin = Passage(shape_in("a = none", "b = none"), keep=("a",))
        self.assertEqual(("red", None), one.loaded(twin.saved(("red", None))))

    def test_copies(self):
        shape = shape_in("a = none", "b = none", "c = none", "d = none", "e = none")
        passage = Passage(shape, keep=("b", "d"), save=("a", "c", "e"))
        for text, new in (
            ("a=5#0; b=5@-1; c=5#0; d=5@-3; e=5#1", ((5, -2), (5, -1), (5, -2), (5, -3), (5, -4))),
            ("a=5#0; b=6@-1; c=6#1; d=none; e=5#0", ((5, -1), (6, -1), (6, -2), None, (5, -1))),
            ("a=red; b=5@0; c=none; d=5@-2; e=5#0", ("red", (5, 0), None, (5, -2), (5, -1))),
        ):
            saved = Saved.read(passage, text)
            self.assertEqual(new, passage.loaded(saved))
            self.assertEqual(new, passage.loaded(saved))
            self.assertEqual(text, str(saved))

    def test_states_that_no_object_gives(self):
        # Both fields take b, but nothing else than the entries is looked at.
        passage = Passage(PAIR, keep=("a",), save=("b",), names=(("a", "b"),))
        self.assertEqual(((3, -1), (4, -1)), passage.loaded(Saved.read(passage, "a=3@-1; b=4#0")))
        passage = Passage(PAIR, save=("a", "b"), names=(("a", "b"),))
        self.assertEqual(((3, -1), (3, -2)), passage.loaded(Saved.read(passage, "a=3#0; b=3#1")))
        self.assertEqual(((3, -1), "red"), passage.loaded(Saved.read(passage, "a=3#0; b=red")))

    def test_again(self):
        passage = Passage(PAIR, save=("a",), again=(("set", "b", ("self", "a")), ("set", "a", "red")))
        self.assertEqual(("red", (3, -1)), passage.loaded(Saved.read(passage, "a=3#0")))

    def test_another_kind(self):
        other = shape_in("x = none", "y = blue")
        passage = Passage(PAIR, save=("x",), into=other, names=(("x", "a"),))
        self.assertEqual(((3, -1), "blue"), passage.loaded(Saved.read(passage, "x=3#0")))


class ReadTest(SavedCase):
    def test_what_is_no_string(self):
        passage = Passage(PAIR, keep=("a",))
        saved = passage.saved((None, None))
        for text in ODD + (None, [], ("a=none",), ["a=none"], b"a=none", saved, passage, {"a": None}):
            if not isinstance(text, str):
                self.check_bad(-1, passage, text)

    def test_right_values_of_level_0(self):
        kept = Passage(PAIR, keep=("a",))
        for number in (0, 1, 9, 10, 123, BIG):
            self.check_read(kept, f"a={number}@0", (number, 0))
            self.check_read(kept, f"a=0@{number}", (0, number))
            if number:
                self.check_read(kept, f"a=7@-{number}", (7, -number))
            self.check_read(Passage(PAIR, save=("a",)), f"a={number}#0", (number, 0))
        for passage in (kept, Passage(PAIR, save=("a",))):
            self.check_read(passage, "a=none", None)
            self.check_read(passage, "a=red", "red")
            self.check_read(passage, "a=blue", "blue")

    def test_wrong_values_of_level_0(self):
        long = "1" + "0" * 100
        both = [
            "", "a", "a=", "=none", "none", "a= none", "a =none", " a=none", "a=none ", "a=None", "a=nonex", "a=xnone",
            "A=none", "b=none", "ab=none",
            "aa=none", "a==none", "a=green", "a=Red", "a=red,", "a=red;", "a=redblue", "a=red blue", "a=page(1)",
            "a=red(1)", "a=5", "a=5@",
            "a=5#", "a=@5", "a=#5", "a=5 @1", "a=5@ 1", "a=5@1 ", "a=(5, 1)", "a=5,1", "a=-5@1", "a=-0@1", "a=+5@1",
            "a=5@+1", "a=05@1", "a=00@1",
            "a=5@01", "a=5@00", "a=5@-0", "a=5@-00", "a=5@-01", "a=5@--1", "a=5@-", "a=5@1-", "a=5@1@1", "a=5@1#0",
            "a=5_0@1", "a=5@1_0", "a=5.0@1",
            "a=5@1e1", "a=\u0665@1", "a=5@\u0661", "a=\u00b2@1", "a=5@x", "a=x@5", "a=none@1", "a=red@1", "a=5#00",
            "a=5#01", "a=5#-0", "a=5#-1",
            "a=05#0", "a=5# 0", "a=5#+0", "a=5#0#0", "a=5#0@0", "a=5##0", "a=5#x", "a=-5#0", "a=5#\u0660", "a=5\t#0",
            "a=5#0\n", "\na=5#0",
            f"a={long}@0", f"a=0@{long}", f"a=0@-{long}", f"a={long}#0", f"a=0#{long}", "a=self", "a=True", "a=thing",
            "a=k", "a=none;none",
            "a=red;b=red", "a=0x5@1", "a=5@0x1", "a='red'",
        ]
        for text in both + ["a=5#0"]:
            self.check_bad(0, Passage(PAIR, keep=("a",)), text)
        for text in both + ["a=5@0", "a=5@-1", "a=5#1", "a=5#2", f"a=5#{BIG}"]:
            self.check_bad(0, Passage(PAIR, save=("a",)), text)

    def test_right_derived_values(self):
        for way in ("keep", "save"):
            passage = Passage(FULL, **{way: ("d",)})
            for text, value in (
                ("none", None), ("page(none)", ("page", None)), ("page(0)", ("page", 0)),
                ("page(red,blue)", ("page", "red", "blue")),
                ("red(red)", ("red", "red")), (f"page({BIG},{BIG})", ("page", BIG, BIG)),
                ("abcdefgh(10,none)", ("abcdefgh", 10, None)),
                ("nonesuch(0)", ("nonesuch", 0)), ("page(none,0)", ("page", None, 0)),
            ):
                self.check_read(passage, f"d={text}", value)
            passage = Passage(FULL, **{way: ("e", "g")})
            for text, value in (
                ("page(leaf(0))", ("page", ("leaf", 0))), ("page(0,leaf(0,red))", ("page", 0, ("leaf", 0, "red"))),
                ("page(leaf(1),leaf(2))", ("page", ("leaf", 1), ("leaf", 2))),
                ("a(nonea(none))", ("a", ("nonea", None))),
            ):
                self.check_read(passage, f"e={text}; g=none", value, None)
                self.check_read(passage, f"e=none; g={text}", None, value)
                self.check_read(passage, f"e={text}; g=x({text},none)", value, ("x", value, None))

    def test_wrong_derived_values(self):
        long = "1" + "0" * 100
        wrong = [
            "red", "5", "5@0", "5#0", "0", "page", "page()", "page( 0)", "page(0 )", "page (0)", "page(0", "page0)",
            "page(0))", "page((0))", "(0)",
            "page(0, 1)", "page(0,)", "page(,0)", "page(0,1,2)", "page(0;1)", "page(-1)", "page(00)", "page(01)",
            "page(-0)", "page(+1)", f"page({long})",
            f"page(0,{long})", "page(5@0)", "page(5#0)", "page(green)", "page(None)", "page(page)", "page(0)page",
            "page(0) ", " page(0)", "Page(0)",
            "PAGE(0)", "none(0)", "self(0)", "thing(0)", "abcdefghi(0)", "page.leaf(0)", "page(0)(0)", "page[0]",
            "page(\u0661)", "page(x)", "page(0.)",
            "page(none(0))", "page(leaf())", "page(leaf(0)", "none(none)", "page(0,none", "nonea", "page(none,)",
            "made(0)", "page(1_0)", "page(self)",
        ]
        for way in ("keep", "save"):
            for field in "deg":
                passage = Passage(FULL, **{way: (field,)})
                for text in wrong:
                    self.check_bad(0, passage, f"{field}={text}")
        for depth in range(1, 7):
            text = "a(" * depth + "0" + ")" * depth
            broad = "a(1," * depth + "0" + ")" * depth
            for most, field in enumerate("deg", 1):
                passage = Passage(FULL, keep=(field,))
                for written in (text, broad):
                    if depth <= most:
                        self.assertEqual(f"{field}={written}", str(Saved.read(passage, f"{field}={written}")))
                    else:
                        self.check_bad(0, passage, f"{field}={written}")

    def test_wrong_entries_at_any_length(self):
        kept, saved = Passage(FULL, keep=("a", "g")), Passage(FULL, save=("a", "g"))
        for text in (
            "a=" + "1" * 49000 + "@0", "a=0@" + "1" * 49000, "a=0@-" + "9" * 49000, "a=" + "0" * 49000 + "@0",
            "a=0#" + "1" * 49000, "a=" + "x" * 49000,
            "a=" * 20000, "a" * 49000, "=" * 49000, "; " * 24000, ";" * 49000, " " * 49000, "a=1@" + "-" * 49000,
            "a=none" + " " * 49000,
        ):
            self.check_bad(0, kept, text)
            self.check_bad(0, saved, text)
        for text in ("g=" + "a(" * 24000, "g=" + "a(" * 16000 + "0" + ")" * 16000, "g=a(" + "0," * 20000 + "0)",
                     "g=a(" + "1" * 49000 + ")",
                     "g=a(0" + ")" * 49000, "g=" + "a" * 49000 + "(0)"):
            self.check_bad(1, kept, f"a=none; {text}")
            self.check_bad(1, saved, f"a=5#0; {text}")

    def test_numbers_of_copies(self):
        shape = shape_in("a = none", "b = none", "c = none", "d = none")
        save = ("a", "b", "c", "d")
        memo, none = Passage(shape, save=save), Passage(shape, save=save, memo=False)
        for contents in itertools.product((5, 6), repeat=3):
            for numbers in itertools.product(range(4), repeat=3):
                text = "; ".join(f"{field}={content}#{number}" for field, content,
                                 number in zip("abc", contents, numbers)) + "; d=none"
                first, earlier = None, []
                plain = next((at for at, number in enumerate(numbers) if number != at), None)
                for at, (content, number) in enumerate(zip(contents, numbers)):
                    if number == len(earlier):
                        earlier.append(content)
                    elif number > len(earlier) or earlier[number] != content:
                        first = at
                        break
                for passage, at in ((memo, first), (none, plain)):
                    if at is None:
                        self.assertEqual(text, str(Saved.read(passage, text)))
                    else:
                        self.check_bad(at, passage, text)

    def test_numbers_of_copies_behind_other_entries(self):
        shape = shape_in("a = none", "b = none", "c = none", "d = none")
        passage = Passage(shape, keep=("b",), save=("a", "c", "d"))
        for text, at in (
            ("a=5#0; b=5@7; c=5#0; d=5#1", None), ("a=none; b=5@7; c=5#0; d=6#1", None),
            ("a=red; b=5@7; c=5#1; d=6#1", 2),
            ("a=5#0; b=5@7; c=red; d=5#1", None), ("a=5#0; b=5@7; c=6#0; d=5#1", 2), ("a=5#0; b=5#1; c=5#0; d=5#1", 1),
            ("a=5#0; b=5@0; c=6#1; d=6#0", 3), ("a=5#0; b=5@0; c=6#1; d=6#2", None),
            ("a=5#0; b=5@0; c=6#1; d=5#2", None),
            ("a=5#0; b=5@0; c=6#1; d=6#3", 3), ("a=5#0; b=5@0; c=6#1; d=5#1", 3), ("a=5#0; b=5@0; c=6#1; d=5#0", None),
        ):
            if at is None:
                self.assertEqual(text, str(Saved.read(passage, text)))
            else:
                self.check_bad(at, passage, text)

    def test_a_field_that_takes_the_field_of_another_one(self):
        passage = Passage(PAIR, save=("a", "b"), names=(("a", "b"),))
        for text in ("a=5#0; b=5#0", "a=5#0; b=5#1", "a=5#0; b=6#1", "a=none; b=5#0", "a=red; b=blue"):
            self.assertEqual(text, str(Saved.read(passage, text)))

    def test_the_first_wrong_entry(self):
        shape = shape_in("a = none", "b = none", "c: 1", "d = none")
        passage = Passage(shape, keep=("a", "c"), save=("b", "d"))
        parts = ["a=5@-1", "b=5#0", "c=page(1)", "d=6#1"]
        self.assertEqual("; ".join(parts), str(Saved.read(passage, "; ".join(parts))))
        wrongs = (["a=5#0", "b=none", "x", ""], ["b=5@0", "a=5#0", "b=5#1", "b=5"], ["c=1", "c=red", "c=", "c=5@0"],
                  ["d=6@0", "d=6#2", "d=6#0", "d"])
        for first, second in itertools.product(range(4), repeat=2):
            for wrong, other in itertools.product(wrongs[first], wrongs[second]):
                changed = list(parts)
                changed[second] = other
                changed[first] = wrong
                if wrong != "b=none" and other != "b=none":
                    self.check_bad(min(first, second), passage, "; ".join(changed))

    def test_more_and_fewer_entries(self):
        shape = shape_in("a = none", "b = none", "c = none")
        passage = Passage(shape, keep=("a", "b", "c"))
        parts = ["a=none", "b=none", "c=none"]
        for count in range(3):
            self.check_bad(count, passage, "; ".join(parts[:count]))
        self.check_bad(3, passage, "; ".join(parts + ["d=none"]))
        self.check_bad(3, passage, "; ".join(parts + ["c=none", "x"]))
        self.check_bad(3, passage, "; ".join(parts + [""]))
        self.check_bad(1, passage, "a=none; c=none")
        self.check_bad(1, passage, "a=none; x")
        self.check_bad(0, passage, "x; b=none; c=none; d=none")
        self.check_bad(2, passage, "a=none; b=none; x; d=none")
        self.check_bad(0, passage, "")
        for text in ("a=none", "x", " ", ";", "; ", "none"):
            self.check_bad(0, Passage(shape), text)
        self.check_read(Passage(shape), "")
        self.check_bad(0, Passage(shape, keep=("a",)), "")

    def test_signs_between_entries(self):
        passage = Passage(PAIR, keep=("a", "b"))
        for text in ("a=none;b=none", "a=none ; b=none", "a=none, b=none", "a=none\nb=none", "a=none b=none",
                     "a=none;; b=none", ";a=none; b=none"):
            self.check_bad(0, passage, text)
        for text in ("a=none;  b=none", "a=none; b=none;", "a=none; b=none ", "a=none; ;b=none", "a=none; ",
                     "a=none; ; b=none"):
            self.check_bad(1, passage, text)
        self.check_bad(2, passage, "a=none; b=none; ")

    def test_fields_that_are_due(self):
        passage = Passage(FULL, keep=("b", "e"))
        for text, at in (
            ("e=none; b=none", 0), ("b=none; b=none", 1), ("a=none; e=none", 0), ("b=none; d=none", 1),
            ("b=none; g=none", 1), ("d=none", 0),
        ):
            self.check_bad(at, passage, text)
        self.check_read(passage, "b=none; e=none", None, None)

    def test_marks_are_those_of_into(self):
        shape = shape_in("a = none", "b: 1", marks="green")
        passage = Passage(shape, keep=("a",), save=("b",))
        self.check_read(passage, "a=green; b=page(green)", "green", ("page", "green"))
        self.check_bad(0, passage, "a=red; b=page(green)")
        self.check_bad(1, passage, "a=green; b=page(red)")


if __name__ == "__main__":
    unittest.main()
