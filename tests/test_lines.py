"""The line of a kind (11), and what an object has of the kinds of the line (12)."""

import itertools
import unittest

from carriedfields.errors import BadLibrary
from carriedfields.kinds import Kind, Method
from carriedfields.libraries import Library
from samples import Case


def choices_of_bases(names):
    """All tuples of different names, in each order."""
    return [chosen for count in range(len(names) + 1) for chosen in itertools.permutations(names, count)]


def python_lines(bases):
    """The lines that Python gives classes with these bases, or the first name without one."""
    classes, lines = {}, {}
    for name, names in bases.items():
        try:
            classes[name] = type(name, tuple(classes[base] for base in names), {})
        except TypeError:
            return name
        lines[name] = tuple(made.__name__ for made in classes[name].__mro__[:-1])
    return lines


class LineTest(Case):
    def test_example_of_the_document(self):
        library = Library(Kind("a"), Kind("b", "a"), Kind("c", "a"), Kind("d", "b", "c"))
        self.assertEqual(("d", "b", "c", "a"), library["d"].line)

    def check_lines(self, bases):
        """The lines are those of Python; says whether each kind has one."""
        wanted = python_lines(bases)
        kinds = [Kind(name, *names) for name, names in bases.items()]
        if isinstance(wanted, str):
            self.check_raises(BadLibrary, {"at": list(bases).index(wanted), "part": "line"}, Library, *kinds)
            return False
        library = Library(*kinds)
        self.assertEqual(wanted, {name: library[name].line for name in bases})
        return True

    def test_all_lines_of_four_kinds(self):
        found = [0, 0]
        for second, third, fourth in itertools.product(*(choices_of_bases("abc"[:many]) for many in (1, 2, 3))):
            found[self.check_lines({"a": (), "b": second, "c": third, "d": fourth})] += 1
        self.assertEqual(160, sum(found))
        self.assertTrue(all(found))

    def test_names_in_another_order(self):
        self.check_lines({"d": (), "c": ("d",), "b": ("d",), "a": ("c", "b")})
        self.check_lines({"z": (), "m": (), "b": ("z", "m"), "a": ("m", "z")})

    def test_lines_by_hand(self):
        library = Library(Kind("a"), Kind("b"), Kind("c", "b", "a"), Kind("d", "c", "b"))
        self.assertEqual(("a",), library["a"].line)
        self.assertEqual(("b",), library["b"].line)
        self.assertEqual(("c", "b", "a"), library["c"].line)
        self.assertEqual(("d", "c", "b", "a"), library["d"].line)

    def test_no_line(self):
        kinds = (Kind("a"), Kind("b", "a"), Kind("c", "a", "b"))
        self.check_raises(BadLibrary, {"at": 2, "part": "line"}, Library, *kinds)
        kinds = (Kind("a"), Kind("b"), Kind("c", "a", "b"), Kind("d", "b", "c"))
        self.check_raises(BadLibrary, {"at": 3, "part": "line"}, Library, *kinds)
        kinds = (Kind("a"), Kind("b", "a"), Kind("c", "a"), Kind("d", "a", "c"))
        self.check_raises(BadLibrary, {"at": 3, "part": "line"}, Library, *kinds)


class TogetherTest(Case):
    def test_fields_of_all_kinds_ascending(self):
        library = Library(
            Kind("a", fields=(("z", 0, None), ("k", 2, None))), Kind("b", fields=(("m", 1, None), ("b", 0, None))),
            Kind("c", "b", "a", fields=(("k", 2, None), ("c", 3, None))), Kind("d", "c"),
        )
        self.assertEqual((("k", 2), ("z", 0)), library["a"].fields)
        self.assertEqual((("b", 0), ("m", 1)), library["b"].fields)
        self.assertEqual((("b", 0), ("c", 3), ("k", 2), ("m", 1), ("z", 0)), library["c"].fields)
        self.assertEqual(library["c"].fields, library["d"].fields)

    def test_first_values_of_the_first_kind_of_the_line(self):
        library = Library(
            Kind("a", fields=(("f", 0, "red"), ("g", 0, "red"), ("h", 0, "red"))),
            Kind("b", "a", fields=(("g", 0, "blue"), ("f", 0, None))),
            Kind("c", "a", fields=(("h", 0, "green"), ("g", 0, "green"))), Kind("d", "b", "c"),
            marks=("red", "green", "blue"),
        )
        self.assertEqual(("red", "red", "red"), library["a"].firsts)
        self.assertEqual((None, "blue", "red"), library["b"].firsts)
        self.assertEqual(("red", "green", "green"), library["c"].firsts)
        self.assertEqual((None, "blue", "green"), library["d"].firsts)

    def test_first_values_of_derived_fields(self):
        library = Library(Kind("a", fields=(("f", 1, None), ("g", 0, "red"))), marks=("red",))
        self.assertEqual((None, "red"), library["a"].firsts)
        self.assertEqual((), Library(Kind("a"))["a"].firsts)
        self.assertEqual((), Library(Kind("a"))["a"].fields)

    def test_first_values_by_cls(self):
        library = Library(
            Kind("a", constants=(("A", "red"), ("B", None)), fields=(("f", 0, ("cls", "A")), ("g", 0, ("cls", "B")))),
            Kind("b", "a", constants=(("A", None), ("B", "blue"))), Kind("c", "a", constants=(("A", "green"),)),
            Kind("d", "c", "b", fields=(("g", 0, ("cls", "A")), ("h", 0, ("cls", "B")))),
            marks=("red", "green", "blue"),
        )
        self.assertEqual(("red", None), library["a"].firsts)
        self.assertEqual((None, "blue"), library["b"].firsts)
        self.assertEqual(("green", None), library["c"].firsts)
        self.assertEqual(("green", "green", "blue"), library["d"].firsts)

    def test_a_constant_of_a_later_kind_of_the_line(self):
        library = Library(
            Kind("a", constants=(("A", "red"),)), Kind("b", "a", fields=(("f", 0, ("cls", "A")),)),
            Kind("c", "b", constants=(("A", None),)), marks=("red",),
        )
        self.assertEqual((("red",), (None,)), (library["b"].firsts, library["c"].firsts))

    def test_face(self):
        library = Library(
            Kind("a", methods=(Method("put", "x"), Method("get", level=2), Method("all", "x", "y", role="enter"))),
            Kind("b", "a", methods=(Method("leap", role="leave"), Method("get", level=2, rows=(("return", None),)))),
            Kind("c"), marks=("red", "blue", "green"),
        )
        marks = ("blue", "green", "red")
        methods = (("all", 2, 0, "enter"), ("get", 0, 2, None), ("put", 1, 0, None))
        self.assertEqual((methods, marks), library["a"].face)
        methods = (("all", 2, 0, "enter"), ("get", 0, 2, None), ("leap", 0, 0, "leave"), ("put", 1, 0, None))
        self.assertEqual((methods, marks), library["b"].face)
        self.assertEqual(((), marks), library["c"].face)
        self.assertEqual(((), ()), Library(Kind("a"))["a"].face)

    def test_parts_are_tuples(self):
        library = Library(Kind("a", fields=(("f", 0, None),), methods=(Method("m", "x"),)), marks=("red",))
        shape = library["a"]
        wanted = "('a', ('a',), (('f', 0),), (None,), ((('m', 1, 0, None),), ('red',)))"
        self.assertEqual(wanted, repr((shape.name, shape.line, shape.fields, shape.firsts, shape.face)))


if __name__ == "__main__":
    unittest.main()
