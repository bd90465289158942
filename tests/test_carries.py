"""Carries (16): what was passed, what is left out, equality, and each error in its order."""

import unittest

from carriedfields.errors import BadCarry, BadRow
from carriedfields.kinds import Carry
from samples import ODD, Case, nested_if

AGAIN = (("set", "item", None), ("let", "w", ("self", "item")), ("if", None, "is", "w", (("set", "a", "w"),), ()))


class CarryTest(Case):
    def test_what_was_passed(self):
        carry = Carry(keep=("b", "a"), save=("d", "c"), again=AGAIN, more=False)
        self.assertEqual({"keep": ("b", "a"), "save": ("d", "c"), "again": AGAIN, "more": False}, vars(carry))

    def test_what_is_left_out(self):
        self.assertEqual({"keep": (), "save": (), "again": (), "more": True}, vars(Carry()))
        self.assertIs(True, Carry().more)

    def test_nothing_by_position(self):
        with self.assertRaises(TypeError):
            Carry(("a",))

    def test_wrong_names(self):
        wrongs = [
            None, "a", ["a"], [], ("a", "a"), ("a", "b", "a"), ("UP",), ("a", None), ("a", True), (("a",),), ("a", ""),
            ("a", "self"), ("ninechars",), ("a", 1),
        ]
        for names in wrongs + [odd for odd in ODD if odd != ()]:
            self.check_raises(BadCarry, {"part": "keep"}, Carry, keep=names)
            self.check_raises(BadCarry, {"part": "save"}, Carry, save=names)

    def test_a_saved_name_that_is_kept(self):
        self.check_raises(BadCarry, {"part": "save"}, Carry, keep=("a",), save=("a",))
        self.check_raises(BadCarry, {"part": "save"}, Carry, keep=("a", "b"), save=("c", "b"))
        self.assertEqual(("c", "d"), Carry(keep=("a", "b"), save=("c", "d")).save)

    def test_more_is_a_truth_value(self):
        self.assertIs(False, Carry(more=False).more)
        self.assertIs(True, Carry(more=True).more)
        for more in [None, 0, 1, "a", "", (), (True,), [False]] + [odd for odd in ODD if not isinstance(odd, bool)]:
            self.check_raises(BadCarry, {"part": "more"}, Carry, more=more)

    def test_rows_of_again(self):
        for rows in (None, [], list(AGAIN), "set", 0, True, AGAIN[0]):
            at = 0 if isinstance(rows, tuple) else -1
            self.check_raises(BadRow, {"at": at}, Carry, again=rows)
        for row in (("return", "x"), ("refuse", None), ("super", None), ("super", "w", "x")):
            self.check_raises(BadRow, {"at": 0}, Carry, again=(row,))
            self.check_raises(BadRow, {"at": 4}, Carry, again=AGAIN + (row,))
            self.check_raises(BadRow, {"at": 3}, Carry, again=(nested_if(3, (row,)),))
            self.check_raises(BadRow, {"at": 1}, Carry, again=(("if", "a", "is", None, (), (row,)),))

    def test_sixteen_rows_and_four_ifs(self):
        row = ("let", "w", "x")
        self.assertEqual(16, len(Carry(again=(row,) * 16).again))
        self.check_raises(BadRow, {"at": 16}, Carry, again=(row,) * 17)
        Carry(again=(nested_if(4, (row,)),))
        self.check_raises(BadRow, {"at": 5}, Carry, again=(nested_if(5, (row,)),))

    def test_the_order_of_the_errors(self):
        wrongs = (
            ("keep", BadCarry, {"part": "keep"}), ("save", BadCarry, {"part": "save"}),
            ("again", BadRow, {"at": 0}), ("more", BadCarry, {"part": "more"}),
        )
        for number in range(1, 2 ** len(wrongs)):
            chosen = [wrong for at, wrong in enumerate(wrongs) if number >> at & 1]
            parts = [part for part, _, _ in chosen]
            for save in (("b", "b"), ("a",)):
                self.check_raises(
                    chosen[0][1], chosen[0][2], Carry, keep=("a", "a") if "keep" in parts else ("a",),
                    save=save if "save" in parts else ("b",), more=1 if "more" in parts else True,
                    again=(("return", None),) if "again" in parts else (),
                )

    def test_arguments_are_not_changed(self):
        names, rows = ["a", "b"], [["set", "a", None]]
        self.check_raises(BadCarry, {"part": "keep"}, Carry, keep=names)
        self.check_raises(BadRow, {"at": -1}, Carry, again=rows)
        self.assertEqual([["a", "b"], [["set", "a", None]]], [names, rows])


class EqualityTest(Case):
    def test_equal_arguments(self):
        self.check_equal(Carry(), Carry(keep=(), save=(), again=(), more=True))
        self.check_equal(Carry(keep=("a",), save=("b",), again=AGAIN), Carry(again=AGAIN, save=("b",), keep=("a",)))
        self.check_equal(Carry(more=False), Carry(more=False))

    def test_each_part_changed(self):
        self.check_all_different([
            Carry(), Carry(keep=("a",)), Carry(save=("a",)), Carry(keep=("a", "b")), Carry(keep=("b", "a")),
            Carry(keep=("a",), save=("b",)), Carry(keep=("b",), save=("a",)), Carry(save=("a", "b")),
            Carry(again=AGAIN), Carry(again=AGAIN[:1]), Carry(again=AGAIN[::-1]), Carry(more=False),
            Carry(keep=("a",), more=False),
        ])

    def test_other_classes(self):
        self.check_foreign(Carry())
        self.check_foreign(Carry(keep=("box",)))


if __name__ == "__main__":
    unittest.main()
