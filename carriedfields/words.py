"""The smallest parts of values and classes: integers, levels, words and constants (points 2, 4 and 9)."""

SMALL = "abcdefghijklmnopqrstuvwxyz"
CAPITAL = "ABCDEFGHIJKLMNOPQRSTUVWXYZ"
LONGEST = 8
HIGHEST_LEVEL = 3
RESERVED = (
    "alone", "carry", "class", "cls", "def", "else", "enter", "if", "is", "keep", "leave", "made",
    "marks", "none", "not", "refuse", "return", "save", "self", "super", "thing",
)


def is_integer(value):
    """Whether any value is an integer; True and False are none."""
    return isinstance(value, int) and not isinstance(value, bool)


def is_level(value):
    """Whether any value is a level."""
    return is_integer(value) and 0 <= value <= HIGHEST_LEVEL


def is_spelled(value, letters):
    """Whether any value is a string of one to eight of these letters."""
    if not isinstance(value, str) or not 1 <= len(value) <= LONGEST:
        return False
    return all([letter in letters for letter in value])


def is_word(value):
    """Whether any value is a word."""
    return is_spelled(value, SMALL) and value not in RESERVED


def is_constant(value):
    """Whether any value is a constant."""
    return is_spelled(value, CAPITAL)


def are_different_words(value):
    """Whether any value is a tuple of words of which none stands twice."""
    if not isinstance(value, tuple) or not all([is_word(word) for word in value]):
        return False
    return len(set(value)) == len(value)
