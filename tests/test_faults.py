"""The faults of a library (13), each alone and several at once, and the index of the kind."""

import itertools
import unittest

from carriedfields.errors import BadLibrary
from carriedfields.kinds import Carry, Kind, Method
from carriedfields.libraries import Library
from samples import Case, nested_if

SIX = tuple((name, 0, None) for name in "efghij")
SEVEN = tuple(Method(name) for name in "efghijk")


class FaultCase(Case):
    def check_fault(self, at, part, *kinds, marks=("red", "blue")):
        self.check_raises(BadLibrary, {"at": at, "part": part}, Library, *kinds, marks=marks)

    def check_right(self, *kinds, marks=("red", "blue")):
        self.assertEqual(kinds, Library(*kinds, marks=marks).kinds)


class NamesTest(FaultCase):
    def test_name(self):
        self.check_fault(1, "name", Kind("a"), Kind("a"))
        self.check_fault(2, "name", Kind("a"), Kind("b"), Kind("a"))
        self.check_fault(3, "name", Kind("a"), Kind("b"), Kind("c"), Kind("b"))
        self.check_fault(1, "name", Kind("a"), Kind("a", "a"))
        self.check_fault(1, "name", Kind("a"), Kind("a", "gone"))
        self.check_right(Kind("red"), Kind("blue"))

    def test_bases(self):
        self.check_fault(0, "bases", Kind("a", "a"))
        self.check_fault(0, "bases", Kind("a", "b"), Kind("b"))
        self.check_fault(0, "bases", Kind("a", "gone"))
        self.check_fault(1, "bases", Kind("a"), Kind("b", "b"))
        self.check_fault(1, "bases", Kind("a"), Kind("b", "a", "c"), Kind("c"))
        self.check_fault(1, "bases", Kind("a"), Kind("b", "a", "a"))
        self.check_fault(2, "bases", Kind("a"), Kind("b"), Kind("c", "a", "b", "a"))
        self.check_fault(2, "bases", Kind("a"), Kind("b"), Kind("c", "a", "b", "red"))

    def test_line_behind_bases(self):
        self.check_fault(2, "bases", Kind("a"), Kind("b", "a"), Kind("c", "a", "b", "gone"))
        self.check_fault(2, "line", Kind("a"), Kind("b", "a"), Kind("c", "a", "b"))


class ConstantsTest(FaultCase):
    def test_constants(self):
        self.check_right(Kind("a", constants=(("A", None), ("B", "red"), ("C", "blue"))))
        for word in ("green", "a", "x", "reds", "re"):
            self.check_fault(0, "constants", Kind("a", constants=(("A", word),)))
            self.check_fault(0, "constants", Kind("a", constants=(("A", None), ("B", "red"), ("C", word))))
            self.check_fault(1, "constants", Kind("a"), Kind("b", "a", constants=(("A", word),)))
        self.check_fault(0, "constants", Kind("a", constants=(("A", "red"),)), marks=())


class FieldsTest(FaultCase):
    def test_first_values(self):
        self.check_right(Kind("a", fields=(("f", 0, "red"), ("g", 0, "blue"), ("h", 0, None), ("i", 2, None))))
        for word in ("green", "f", "a", "reds"):
            self.check_fault(0, "fields", Kind("a", fields=(("f", 0, word),)))
            self.check_fault(0, "fields", Kind("a", fields=(("f", 0, "red"), ("g", 1, None), ("h", 0, word))))
            self.check_fault(1, "fields", Kind("a"), Kind("b", fields=(("f", 0, word),)))

    def test_constants_of_the_line(self):
        first, made = ("cls", "A"), (("A", "red"),)
        fields = (("f", 0, None), ("g", 0, first))
        self.check_right(Kind("a", constants=made, fields=fields))
        self.check_right(Kind("a", constants=made), Kind("b", "a", fields=fields))
        self.check_right(Kind("a", constants=made), Kind("b", "a"), Kind("c", "b", fields=fields))
        self.check_right(Kind("a"), Kind("b", constants=made), Kind("c", "a", "b", fields=fields))
        self.check_fault(0, "fields", Kind("a", fields=fields))
        self.check_fault(0, "fields", Kind("a", constants=(("B", "red"),), fields=fields))
        self.check_fault(1, "fields", Kind("a", constants=made), Kind("b", fields=fields))
        self.check_fault(2, "fields", Kind("a", constants=made), Kind("b", "a"), Kind("c", fields=fields))
        self.check_fault(0, "fields", Kind("a", fields=fields), Kind("b", "a", constants=made))

    def test_levels_of_earlier_kinds(self):
        def field(level, *before):
            return {"fields": (*before, ("f", level, None))}
        for one, other in itertools.product(range(4), range(4)):
            if one == other:
                self.check_right(Kind("a", **field(one)), Kind("b", "a", **field(other)))
                self.check_right(Kind("a", **field(one)), Kind("b", **field(other)))
            else:
                self.check_fault(1, "fields", Kind("a", **field(one)), Kind("b", "a", **field(other)))
                self.check_fault(1, "fields", Kind("a", **field(one)), Kind("b", **field(other)))
                self.check_fault(2, "fields", Kind("a", **field(one)), Kind("b"), Kind("c", **field(other)))
                self.check_fault(2, "fields", Kind("a"), Kind("b", **field(one)), Kind("c", "a", **field(other)))
                self.check_fault(
                    3, "fields", Kind("a"), Kind("b", **field(one, ("e", 0, None))), Kind("c", **field(one)),
                    Kind("d", **field(other, ("g", 1, None), ("e", 0, "red"))),
                )

    def test_other_first_values_are_right(self):
        self.check_right(Kind("a", fields=(("f", 0, "red"),)), Kind("b", "a", fields=(("f", 0, None),)))


class MethodsTest(FaultCase):
    def test_parameters_that_are_marks(self):
        self.check_right(Kind("a", methods=(Method("red", "x"), Method("m", "m", "reds"))))
        for params in (("red",), ("blue",), ("x", "blue"), ("red", "x"), ("red", "blue")):
            self.check_fault(0, "methods", Kind("a", methods=(Method("m", *params),)))
            self.check_fault(0, "methods", Kind("a", methods=(Method("m", "x"), Method("n"), Method("o", *params))))
            self.check_fault(2, "methods", Kind("a"), Kind("b"), Kind("c", methods=(Method("m", *params),)))
            self.check_right(Kind("a", methods=(Method("m", *params),)), marks=("green",))

    def test_methods_of_earlier_kinds(self):
        def make(params, level, role, *before):
            return (*before, Method("m", *"xy"[:params], level=level, role=role))
        outsides = list(itertools.product((0, 1, 2), (0, 1, 3), (None, "enter", "leave")))
        for one, other in itertools.product(outsides, outsides):
            first, second = Kind("a", methods=make(*one)), make(*other, Method("l"))
            third = Kind("c", methods=make(*one, Method("k")))
            for kind in (Kind("b", "a", methods=second), Kind("b", methods=second)):
                if one == other:
                    self.check_right(first, kind, third)
                else:
                    self.check_fault(1, "methods", first, kind)
                    self.check_fault(2, "methods", Kind("z"), first, kind)
                    self.check_fault(2, "methods", first, Kind("z"), kind)

    def test_other_parameters_and_rows_are_right(self):
        self.check_right(
            Kind("a", methods=(Method("m", "x", "y"),)),
            Kind("b", "a", methods=(Method("m", "y", "z", rows=(("return", "z"),)),)),
        )


class CarryTest(FaultCase):
    def check_names(self, fault, *names):
        """Names of fields that stand in a carry behind fields f and g and a field h of a base."""
        base = Kind("a", fields=(("h", 0, None),))
        other = Kind("b", fields=(("o", 0, None),))
        for carry in (
            Carry(keep=names), Carry(save=names), Carry(keep=names[:1], save=names[1:]), Carry(keep=names[::-1]),
            Carry(save=names[::-1], more=False), Carry(keep=names[1:], save=names[:1]),
        ):
            kind = Kind("c", "a", fields=(("f", 0, None), ("g", 2, None)), carry=carry)
            if fault:
                self.check_fault(2, "carry", base, other, kind)
            else:
                self.check_right(base, other, kind)

    def test_fields_of_the_line(self):
        self.check_names(False)
        self.check_names(False, "f")
        self.check_names(False, "f", "g", "h")
        self.check_names(True, "o")
        self.check_names(True, "f", "g", "o")
        self.check_names(True, "f", "g", "h", "gone")
        self.check_names(True, "gone", "f", "h")
        self.check_names(True, "red")

    def check_again(self, fault, *rows):
        kind = Kind("c", constants=(("A", None),), fields=(("f", 0, None), ("g", 2, None)), carry=Carry(again=rows))
        (self.check_fault if fault else self.check_right)(*([0, "carry"] if fault else []), kind)

    def test_rows_of_again(self):
        self.check_again(False, ("set", "f", "red"), ("set", "g", ("page", ("self", "f"))), ("let", "w", ("cls", "A")))
        self.check_again(False, ("set", "f", "w"), ("let", "w", ("self", "f")))
        self.check_again(False, ("if", ("self", "g"), "is not", None, (("let", "w", None),), (("set", "f", "w"),)))
        for row in (
            ("set", "gone", None), ("set", "f", "x"), ("set", "f", ("cls", "B")), ("set", "f", ("self", "gone")),
            ("let", "red", None), ("let", "w", "x"), ("let", "w", ("self", "g")), ("set", "f", ("page", None)),
            ("set", "g", "red"), ("set", "g", ("page", ("self", "g"))), ("if", "x", "is", None, (), ()),
            ("if", None, "is", ("self", "g"), (), ()), ("if", ("self", "g"), "==", None, (), ()),
            ("set", "g", ("page", ("page", ("self", "g")))), ("let", "w", ("page", "w")),
        ):
            self.check_again(True, row)
            self.check_again(True, ("set", "f", None), ("let", "v", "v"), row)
            self.check_again(True, nested_if(4, (row,)))
            self.check_again(True, ("if", None, "is", None, (), (("set", "f", None), row)))

    def test_words_of_methods_are_not_words_of_again(self):
        method = Method("m", "x", rows=(("let", "w", "x"),))
        for word in ("x", "w"):
            kind = Kind("c", fields=(("f", 0, None),), methods=(method,), carry=Carry(again=(("set", "f", word),)))
            self.check_fault(0, "carry", kind)

    def test_words_of_other_carries_are_not_words_of_again(self):
        base = Kind("a", fields=(("f", 0, None),), carry=Carry(again=(("let", "w", None),)))
        self.check_fault(1, "carry", base, Kind("b", "a", carry=Carry(again=(("set", "f", "w"),))))

    def test_an_empty_carry(self):
        self.check_right(Kind("a", carry=Carry()), Kind("b", "a", carry=Carry(more=False)))


class SizeTest(FaultCase):
    def test_fields(self):
        self.check_right(Kind("a", fields=SIX[:5]))
        self.check_fault(0, "size", Kind("a", fields=SIX))
        self.check_right(Kind("a", fields=SIX[:3]), Kind("b", "a", fields=SIX[3:5]), Kind("c", "b"))
        self.check_fault(1, "size", Kind("a", fields=SIX[:3]), Kind("b", "a", fields=SIX[3:]))
        self.check_fault(2, "size", Kind("a", fields=SIX[:3]), Kind("b", fields=SIX[3:]), Kind("c", "a", "b"))
        self.check_right(Kind("a", fields=SIX[:3]), Kind("b", fields=SIX[3:]), Kind("c", "a"))

    def test_fields_that_stand_in_several_kinds_count_once(self):
        self.check_right(Kind("a", fields=SIX[:5]), Kind("b", "a", fields=SIX[:5]), Kind("c", "b", fields=SIX[2:4]))
        self.check_fault(1, "size", Kind("a", fields=SIX[:5]), Kind("b", "a", fields=SIX[1:]))

    def test_methods(self):
        self.check_right(Kind("a", methods=SEVEN[:6]))
        self.check_fault(0, "size", Kind("a", methods=SEVEN))
        self.check_right(Kind("a", methods=SEVEN[:3]), Kind("b", "a", methods=SEVEN[3:6]))
        self.check_fault(1, "size", Kind("a", methods=SEVEN[:3]), Kind("b", "a", methods=SEVEN[3:]))
        self.check_fault(2, "size", Kind("a", methods=SEVEN[:3]), Kind("b", methods=SEVEN[3:]), Kind("c", "b", "a"))
        self.check_right(Kind("a", methods=SEVEN[:6]), Kind("b", "a", methods=SEVEN[:6]))
        self.check_right(Kind("a", fields=SIX[:5], methods=SEVEN[:6]))

    def test_constants_do_not_count(self):
        self.check_right(Kind("a", constants=tuple((name, None) for name in "ABCDEFGHIJ")))


class OrderTest(FaultCase):
    def test_all_faults_together(self):
        orders = itertools.product((False, True), (None, "bases", "line"), *[(False, True)] * 6)
        for name, bases, *others in orders:
            names = ("constants", "fields", "methods", "rows", "carry", "size")
            parts = [part for part, is_in in zip(names, others) if is_in]
            parts = ["name"] * name + ([bases] if bases else []) + parts
            rows = (("return", "nowhere"),) if "rows" in parts else ()
            fields = SIX if "size" in parts else ()
            kind = Kind(
                "a" if name else "c", *{None: ("b",), "bases": ("a", "b", "d"), "line": ("a", "b")}[bases],
                constants=(("A", "green"),) if "constants" in parts else (),
                fields=fields + ((("z", 0, "green"),) if "fields" in parts else ()),
                methods=(Method("m", "red" if "methods" in parts else "x", rows=rows),),
                carry=Carry(keep=("nowhere",)) if "carry" in parts else None,
            )
            kinds = (Kind("a"), Kind("b", "a"), kind)
            if parts:
                self.check_fault(2, parts[0], *kinds)
                self.check_fault(2, parts[0], *kinds, Kind("b", "gone"))
            else:
                self.check_right(*kinds)

    def test_the_first_kind_with_a_fault(self):
        wrongs = {
            "bases": Kind("d", "gone"), "constants": Kind("d", constants=(("A", "green"),)),
            "fields": Kind("d", fields=(("f", 0, "green"),)), "methods": Kind("d", methods=(Method("m", "red"),)),
            "rows": Kind("d", methods=(Method("m", rows=(("return", "w"),)),)),
            "carry": Kind("d", carry=Carry(save=("f",))),
            "size": Kind("d", fields=SIX),
        }
        for (part, kind), other in itertools.product(wrongs.items(), wrongs.values()):
            for at in range(3):
                before = (Kind("a"), Kind("b"), Kind("c"))[:at]
                self.check_fault(at, part, *before, kind, other)
                self.check_fault(at, part, *before, kind)

    def test_a_fault_of_an_heir_alone(self):
        base = Kind("a", fields=(("f", 1, None),), methods=(Method("m", level=1),))
        self.check_fault(1, "fields", base, Kind("b", "a", fields=(("f", 0, None),), methods=(Method("m"),)))
        self.check_fault(1, "methods", base, Kind("b", "a", methods=(Method("m", rows=(("return", "w"),)),)))

    def test_first_values_and_levels_are_one_fault(self):
        base = Kind("a", fields=(("f", 1, None),))
        self.check_fault(1, "fields", base, Kind("b", fields=(("g", 0, "green"), ("f", 0, None))))


if __name__ == "__main__":
    unittest.main()
