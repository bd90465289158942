"""The forms of lines, and where a line may stand (point 15)."""

from carriedfields.forms import MOST_MAKERS
from carriedfields.kinds import is_constant_entry, is_first
from carriedfields.scanning import NoForm
from carriedfields.words import CAPITAL, HIGHEST_LEVEL, SMALL, is_word

# The longer sign stands first, as the shorter one begins it.
SIGNS = ("is not", "is", "==", "!=")
METHOD_WORDS = ("def", "enter", "leave")
# The parts of a class, and those of a carry, stand in the order of these numbers; rows have none.
RANKS = {"constant": 0, "field": 1, "method": 2, "carry": 3, "keep": 0, "save": 1}
LAST_RANK = 4
ONCE = ("carry", "keep", "save")


class Line:
    """A line that has a form: what it says, where it stands, and the lines within it."""

    def __init__(self, form, told, at):
        self.form = form
        self.told = told
        self.at = at
        self.inner = []


def read_expression(scanner, makers=MOST_MAKERS):
    """The expression at the place; makers stand at most so deep in one another."""
    word = scanner.take(SMALL)
    if word == "none":
        return None
    if word == "self":
        scanner.skip(".")
        return ("self", scanner.word())
    if word == "cls":
        scanner.skip(".")
        return ("cls", scanner.constant())
    if not is_word(word) or (makers == 0 and scanner.is_next("(")):
        raise NoForm("an expression is due")
    if not scanner.accepts("("):
        return word
    parts = [read_expression(scanner, makers - 1)]
    if scanner.accepts(", "):
        parts.append(read_expression(scanner, makers - 1))
    scanner.skip(")")
    return (word, *parts)


def read_sign(scanner):
    """The sign at the place, with its blanks."""
    for sign in SIGNS:
        if scanner.accepts(f" {sign} "):
            return sign
    raise NoForm("a sign is due")


def read_if(scanner):
    """The test of an if."""
    one = read_expression(scanner)
    sign = read_sign(scanner)
    other = read_expression(scanner)
    scanner.skip(":")
    return (one, sign, other)


def read_super(scanner):
    """The expressions of a super, behind its first parenthesis."""
    if scanner.accepts(")"):
        return ()
    parts = [read_expression(scanner)]
    while scanner.accepts(", "):
        parts.append(read_expression(scanner))
    scanner.skip(")")
    return tuple(parts)


def read_simple_row(scanner):
    """A row that is no if."""
    if scanner.accepts("self."):
        field = scanner.word()
        scanner.skip(" = ")
        return ("set", field, read_expression(scanner))
    for head in ("return", "refuse"):
        if scanner.accepts(f"{head} "):
            return (head, read_expression(scanner))
    if scanner.accepts("super("):
        return ("super", None, *read_super(scanner))
    word = scanner.word()
    scanner.skip(" = ")
    if scanner.accepts("super("):
        return ("super", word, *read_super(scanner))
    return ("let", word, read_expression(scanner))


def read_row(scanner, at):
    """A line of a row."""
    if scanner.accepts("if "):
        return Line("if", read_if(scanner), at)
    if scanner.accepts("else:"):
        return Line("else", None, at)
    return Line("row", read_simple_row(scanner), at)


def read_marks(scanner, at):
    """The first line of a text."""
    scanner.skip("marks")
    return Line("marks", scanner.word_list(" ") if scanner.accepts(" ") else (), at)


def read_class(scanner, at):
    """The first line of a class."""
    scanner.skip("class ")
    name = scanner.word()
    bases = ()
    if scanner.accepts("("):
        bases = scanner.word_list(", ")
        scanner.skip(")")
    scanner.skip(":")
    return Line("class", (name, bases), at)


def read_constant(scanner, name, at):
    """A line of a constant, behind its name."""
    scanner.skip(" = ")
    value = read_expression(scanner, 0)
    if not is_constant_entry((name, value)):
        raise NoForm("a constant is none or a mark")
    return Line("constant", (name, value), at)


def read_level(scanner):
    """The level at the place, which is above 0."""
    for level in range(1, HIGHEST_LEVEL + 1):
        if scanner.accepts(str(level)):
            return level
    raise NoForm("a level is due")


def read_field(scanner, at):
    """A line of a field."""
    name = scanner.word()
    if scanner.accepts(": "):
        return Line("field", (name, read_level(scanner), None), at)
    scanner.skip(" = ")
    first = read_expression(scanner, 0)
    if not is_first(first):
        raise NoForm("a first value is none, a mark or a constant")
    return Line("field", (name, 0, first), at)


def read_method(scanner, word, at):
    """The first line of a method, behind the word with which it begins."""
    name = scanner.word()
    scanner.skip("(")
    params = () if scanner.is_next(")") else scanner.word_list(", ")
    scanner.skip(")")
    level = read_level(scanner) if scanner.accepts(" -> ") else 0
    scanner.skip(":")
    return Line("method", (name, params, level, None if word == "def" else word), at)


def read_class_part(scanner, at):
    """A line directly within a class."""
    for word in METHOD_WORDS:
        if scanner.accepts(f"{word} "):
            return read_method(scanner, word, at)
    for sign in ("carry:", "carry alone:"):
        if scanner.accepts(sign):
            return Line("carry", sign == "carry:", at)
    name = scanner.take(CAPITAL)
    return read_constant(scanner, name, at) if name else read_field(scanner, at)


def read_carry_part(scanner, at):
    """A line directly within a carry."""
    for word in ("keep", "save"):
        if scanner.accepts(f"{word} "):
            return Line(word, scanner.word_list(" "), at)
    return read_row(scanner, at)


def read_within(scanner, parent, at):
    """A line that stands directly within its parent, whatever stands before it there."""
    if parent.form == "text":
        return read_class(scanner, at) if parent.inner else read_marks(scanner, at)
    if parent.form == "class":
        return read_class_part(scanner, at)
    if parent.form == "carry":
        return read_carry_part(scanner, at)
    if parent.form in ("method", "if", "else"):
        return read_row(scanner, at)
    raise NoForm("no line stands within this one")


def check_place(line, parent):
    """Raise NoForm if a line of this form may not stand behind the last one that stands within its parent."""
    last = parent.inner[-1].form if parent.inner else None
    if line.form == "else" and last != "if":
        raise NoForm("an else stands behind an if")
    if last is not None and RANKS.get(line.form, LAST_RANK) < RANKS.get(last, LAST_RANK):
        raise NoForm("this line stands further up")
    if line.form == last and last in ONCE:
        raise NoForm("this line stands once")
