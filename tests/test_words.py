"""Words, reserved words and constants (4), at every place where one stands."""

import unittest

from carriedfields.errors import BadCarry, BadKind, BadLibrary, BadName, BadRow
from carriedfields.kinds import Carry, Kind, Method
from carriedfields.libraries import Library
from samples import ODD_WORDS, RESERVED, Case

WORDS = ["a", "z", "az", "abcdefgh", "stuvwxyz", "zzzzzzzz", "item", "print", "lambda", "true", "type"]
CONSTANTS = ["A", "Z", "AZ", "ABCDEFGH", "STUVWXYZ", "FIRST", "SELF", "NONE", "CLS", "IF"]
NO_WORDS = [word for word in ODD_WORDS if not isinstance(word, str)] + [
    "", "A", "Z", "aB", "Ab", "AB", "a1", "1", "_", "a_", "a-b", " ", " a", "a ", "a b", "a\n", "\n", "a\t", "a\x00",
    "abcdefghi", "stuvwxyza", "a" * 50000, "`", "{", "@", "[", "\xe9", "\xdf", "\xaa", "\u0430", "\uff41", "\u0131",
]
NO_CONSTANTS = [word for word in ODD_WORDS if not isinstance(word, str)] + [
    "", "a", "z", "aB", "Ab", "ab", "A1", "1", "_", "A_", "A-B", " ", " A", "A ", "A B", "A\n", "\n", "A\x00",
    "ABCDEFGHI", "STUVWXYZA", "A" * 50000, "`", "{", "@", "[", "\xc9", "\u0410", "\uff21",
]


def near_reserved():
    """The reserved words with a letter more or less that are words."""
    near = [word + "x" for word in RESERVED] + ["x" + word for word in RESERVED]
    near += [word[:-1] for word in RESERVED] + [word[1:] for word in RESERVED]
    near += [word[:1] + word[2:] for word in RESERVED] + [word + "s" for word in RESERVED]
    return [word for word in near if word not in RESERVED]


class WordsTest(Case):
    def test_twenty_one_reserved_words(self):
        self.assertEqual(21, len(set(RESERVED)))

    def test_words_are_taken_everywhere(self):
        for word in WORDS + near_reserved():
            if word in ("type", "print"):
                self.assertNotIn(word, RESERVED)
            self.assertEqual(word, Method(word).name)
            self.assertEqual((word,), Method("m", word).params)
            self.assertEqual(("b", word), Method("m", "b", word).params if word != "b" else ("b", word))
            self.assertEqual(word, Kind(word).name)
            self.assertEqual((word,), Kind("m", word).bases)
            Kind("m", fields=((word, 0, word),), constants=(("A", word),))
            Carry(keep=(word,))
            Carry(save=(word,))
            Library(Kind("m"), marks=(word,))
            for row in self.rows_with(word):
                Method("m", rows=(row,))

    def rows_with(self, word):
        return [
            ("set", word, None), ("let", word, None), ("super", word), ("return", word), ("refuse", word),
            ("return", ("self", word)), ("return", (word, None)), ("return", (word, None, word)),
        ]

    def test_others_are_no_names(self):
        for word in NO_WORDS + RESERVED:
            self.check_raises(BadName, {"name": word}, Method, word)
            self.check_raises(BadName, {"name": word}, Method, "m", word)
            self.check_raises(BadName, {"name": word}, Method, "m", "b", word)
            self.check_raises(BadName, {"name": word}, Kind, word)
            self.check_raises(BadName, {"name": word}, Kind, "m", word)
            self.check_raises(BadName, {"name": word}, Kind, "m", "b", word)

    def test_others_stand_nowhere(self):
        for word in NO_WORDS + RESERVED:
            self.check_raises(BadKind, {"part": "fields"}, Kind, "m", fields=((word, 0, None),))
            self.check_raises(BadCarry, {"part": "keep"}, Carry, keep=(word,))
            self.check_raises(BadCarry, {"part": "save"}, Carry, save=(word,))
            self.check_raises(BadLibrary, {"at": -1, "part": "marks"}, Library, Kind("m"), marks=(word,))
            for row in (("set", word, None), ("let", word, None), ("return", ("self", word))):
                self.check_raises(BadRow, {"at": 0}, Method, "m", rows=(row,))
            self.check_raises(BadRow, {"at": 0}, Method, "m", rows=(("return", (word, None, None)),))

    def test_makers(self):
        for word in NO_WORDS + RESERVED:
            if word != "self" and word != "cls":
                self.check_raises(BadRow, {"at": 0}, Method, "m", rows=(("return", (word, "x")),))

    def test_values_of_constants_and_fields(self):
        for word in NO_WORDS + RESERVED:
            if word is not None:
                self.check_raises(BadKind, {"part": "constants"}, Kind, "m", constants=(("A", word),))
                self.check_raises(BadKind, {"part": "fields"}, Kind, "m", fields=(("a", 0, word),))
                self.check_raises(BadRow, {"at": 0}, Method, "m", rows=(("super", word),))

    def test_constants_are_taken_everywhere(self):
        for word in CONSTANTS:
            Kind("m", constants=((word, None),), fields=(("a", 0, ("cls", word)),))
            Method("m", rows=(("return", ("cls", word)),))

    def test_others_are_no_constants(self):
        for word in NO_CONSTANTS:
            self.check_raises(BadKind, {"part": "constants"}, Kind, "m", constants=((word, None),))
            self.check_raises(BadKind, {"part": "fields"}, Kind, "m", fields=(("a", 0, ("cls", word)),))
            self.check_raises(BadRow, {"at": 0}, Method, "m", rows=(("return", ("cls", word)),))


if __name__ == "__main__":
    unittest.main()
