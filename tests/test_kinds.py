"""Kinds (10): what was passed, what is left out, equality, and each error in its order."""

import unittest

from carriedfields.errors import BadKind, BadName
from carriedfields.kinds import Carry, Kind, Method
from samples import LIBRARY, ODD, Case, nested

CONSTANTS = (("FIRST", "draft"), ("LAST", None))
FIELDS = (("item", 0, None), ("style", 0, ("cls", "FIRST")), ("mood", 0, "glad"), ("shown", 3, None))
METHODS = (Method("put", "x"), Method("get"))


class KindTest(Case):
    def test_what_was_passed(self):
        carry = Carry(keep=("item",))
        kind = Kind("box", "b", "a", constants=CONSTANTS, fields=FIELDS, methods=METHODS, carry=carry)
        self.assertEqual("box", kind.name)
        self.assertEqual(("b", "a"), kind.bases)
        self.assertIs(tuple, kind.bases.__class__)
        self.assertEqual(CONSTANTS, kind.constants)
        self.assertEqual(FIELDS, kind.fields)
        self.assertEqual(METHODS, kind.methods)
        self.assertEqual(carry, kind.carry)

    def test_what_is_left_out(self):
        wanted = {"name": "box", "bases": (), "constants": (), "fields": (), "methods": (), "carry": None}
        self.assertEqual(wanted, vars(Kind("box")))

    def test_by_name(self):
        self.check_equal(Kind("box"), Kind(name="box"))
        with self.assertRaises(TypeError):
            Kind()

    def test_the_first_wrong_name_is_told(self):
        self.check_raises(BadName, {"name": "UP"}, Kind, "UP", "DOWN")
        self.check_raises(BadName, {"name": "DOWN"}, Kind, "box", "DOWN", "SIDE")
        self.check_raises(BadName, {"name": "SIDE"}, Kind, "box", "b", "SIDE")
        self.check_raises(BadName, {"name": "SIDE"}, Kind, "box", "b", "b", "c", "d", "e", "SIDE")
        self.check_raises(BadName, {"name": True}, Kind, True, 1)

    def test_what_is_not_looked_at(self):
        self.assertEqual(("box", "b", "b"), Kind("box", "box", "b", "b").bases)
        self.assertEqual(6, len(Kind("box", fields=tuple((name, 0, None) for name in "abcdef")).fields))
        self.assertEqual(7, len(Kind("box", methods=tuple(Method(name) for name in "abcdefg")).methods))
        self.assertEqual(("box",), Kind("c", "box", carry=Carry(keep=("gone",))).bases)

    def test_one_name_in_different_places(self):
        Kind("a", "a", fields=(("a", 0, "a"),), methods=(Method("a", "a"),), carry=Carry(keep=("a",)))

    def test_wrong_constants(self):
        wrongs = [
            None, [], ["FIRST"], list(CONSTANTS), ("FIRST", None), (("FIRST",),), (("FIRST", None, None),), ((),),
            (["FIRST", None],), (("first", None),), (("FIRST", "DRAFT"),), (("FIRST", ("cls", "LAST")),),
            (("FIRST", True),), (("FIRST", 0),), (("FIRST", ()),), (("FIRST", "none"),), (("FIRST", ["draft"]),),
            (("FIRST", None), ("FIRST", "draft")), (("FIRST", None), ("FIRST", None)), CONSTANTS + CONSTANTS[:1],
            CONSTANTS + ("LAST",), CONSTANTS + ((None, None),), (("FIRST", nested(18, "draft")),), (CONSTANTS,),
        ]
        for constants in wrongs + [odd for odd in ODD if odd != ()]:
            self.check_raises(BadKind, {"part": "constants"}, Kind, "box", constants=constants)

    def test_wrong_fields(self):
        wrongs = [
            None, [], list(FIELDS), FIELDS[0], (("item", 0),), (("item",),), (("item", 0, None, None),), ((),),
            ("item",),
            (["item", 0, None],), (("ITEM", 0, None),), ((None, 0, None),), (("item", None, None),),
            (("item", True, None),),
            (("item", False, None),), (("item", 4, None),), (("item", -1, None),), (("item", "0", None),),
            (("item", (0,), None),), (("item", 10 ** 99, None),), (("item", 1, "draft"),),
            (("item", 2, ("cls", "FIRST")),),
            (("item", 3, "a"),), (("item", 0, ("cls", "first")),), (("item", 0, ["cls", "FIRST"]),),
            (("item", 0, ("self", "item")),), (("item", 0, ("cls",)),), (("item", 0, ("cls", "FIRST", "LAST")),),
            (("item", 0, "FIRST"),), (("item", 0, True),), (("item", 0, 0),), (("item", 0, (5, 0)),),
            (("item", 0, ()),),
            (("item", 0, ("page", "draft")),), FIELDS + FIELDS[:1], (("item", 0, None), ("item", 1, None)),
            (("item", 0, None), ("item", 0, "a")), FIELDS + (None,), (FIELDS,), (("item", 0, nested(18)),),
            (("item", 1, False),), (("item", 1, 0),), (("item", 1, ()),),
        ]
        for fields in wrongs + [odd for odd in ODD if odd != ()]:
            self.check_raises(BadKind, {"part": "fields"}, Kind, "box", fields=fields)

    def test_right_fields(self):
        for level in (0, 1, 2, 3):
            self.assertEqual((("a", level, None),), Kind("box", fields=(("a", level, None),)).fields)
        for first in (None, "anything", "item", ("cls", "GONE")):
            self.assertEqual((("a", 0, first),), Kind("box", fields=(("a", 0, first),)).fields)

    def test_wrong_methods(self):
        wrongs = [
            None, [], list(METHODS), METHODS[0], ("put",), (None,), METHODS + ("put",), METHODS + (Method("put"),),
            METHODS + METHODS, (Method("a", "x"), Method("a", "y")), (METHODS,), (Kind("a"),), (Carry(),), (LIBRARY,),
            (Method,), ({},),
        ]
        for methods in wrongs + [odd for odd in ODD if odd != ()]:
            self.check_raises(BadKind, {"part": "methods"}, Kind, "box", methods=methods)

    def test_wrong_carries(self):
        for carry in ["carry", (Carry(),), [Carry()], Carry, Kind("a"), METHODS[0], LIBRARY]:
            self.check_raises(BadKind, {"part": "carry"}, Kind, "box", carry=carry)
        for carry in ODD:
            if not isinstance(carry, Carry):
                self.check_raises(BadKind, {"part": "carry"}, Kind, "box", carry=carry)

    def test_the_order_of_the_errors(self):
        wrong = {"constants": (("first", None),), "fields": (("item", True, None),), "methods": [], "carry": False}
        parts = list(wrong)
        for number in range(1, 2 ** len(parts)):
            named = {part: wrong[part] for at, part in enumerate(parts) if number >> at & 1}
            self.check_raises(BadKind, {"part": list(named)[0]}, Kind, "box", **named)
            self.check_raises(BadName, {"name": ""}, Kind, "", **named)
            self.check_raises(BadName, {"name": 0}, Kind, "box", "a", 0, **named)

    def test_arguments_are_not_changed(self):
        constants, fields = [["FIRST", None]], [["a", 0, None]]
        self.check_raises(BadKind, {"part": "constants"}, Kind, "box", constants=constants)
        self.check_raises(BadKind, {"part": "fields"}, Kind, "box", fields=(fields,))
        self.assertEqual([[["FIRST", None]], [["a", 0, None]]], [constants, fields])


class EqualityTest(Case):
    def test_equal_arguments(self):
        def make():
            return Kind(
                "box", "a", constants=CONSTANTS, fields=FIELDS, methods=(Method("put", "x"),),
                carry=Carry(save=("item",)),
            )
        self.check_equal(make(), make())
        self.check_equal(Kind("box"), Kind("box", constants=(), fields=(), methods=(), carry=None))

    def test_each_part_changed(self):
        self.check_all_different([
            Kind("box"), Kind("bag"), Kind("box", "a"), Kind("box", "b"), Kind("box", "a", "b"), Kind("box", "b", "a"),
            Kind("box", constants=CONSTANTS), Kind("box", constants=CONSTANTS[::-1]),
            Kind("box", constants=(("FIRST", None),)),
            Kind("box", fields=FIELDS), Kind("box", fields=FIELDS[::-1]), Kind("box", fields=(("item", 0, "a"),)),
            Kind("box", fields=(("item", 0, None),)), Kind("box", fields=(("item", 1, None),)),
            Kind("box", methods=METHODS), Kind("box", methods=METHODS[::-1]), Kind("box", methods=METHODS[:1]),
            Kind("box", methods=(Method("put"),)), Kind("box", carry=Carry()), Kind("box", carry=Carry(more=False)),
        ])

    def test_other_classes(self):
        self.check_foreign(Kind("box"))
        self.check_foreign(Kind("put"))


if __name__ == "__main__":
    unittest.main()
