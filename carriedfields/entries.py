"""How the entries of a saved state are written and read (point 22)."""

from carriedfields.scanning import NoForm, Scanner
from carriedfields.values import has_number, is_mark_or_none
from carriedfields.words import SMALL, is_word

DIGITS = "0123456789"
MOST_DIGITS = 100
KEPT_SIGN = "@"
SAVED_SIGN = "#"


def trace_text(trace):
    """A trace as it is written."""
    if trace is None:
        return "none"
    if not isinstance(trace, tuple):
        return str(trace)
    parts = ",".join([trace_text(part) for part in trace[1:]])
    return f"{trace[0]}({parts})"


def entry_text(field, entry, is_saved):
    """An entry as it is written."""
    if has_number(entry):
        sign = SAVED_SIGN if is_saved else KEPT_SIGN
        return f"{field}={entry[0]}{sign}{entry[1]}"
    return f"{field}={trace_text(entry)}"


def read_digits(scanner):
    """The integer at the place, which has no sign."""
    digits = scanner.take(DIGITS)
    if not 1 <= len(digits) <= MOST_DIGITS or (len(digits) > 1 and digits[0] == "0"):
        raise NoForm("an integer is due")
    return int(digits)


def read_number(scanner):
    """The number of a kept thing at the place."""
    if not scanner.accepts("-"):
        return read_digits(scanner)
    number = read_digits(scanner)
    if number == 0:
        raise NoForm("no minus stands before 0")
    return -number


def read_thing(scanner, is_saved):
    """The kept thing at the place, or the content and the index of the saved one."""
    content = read_digits(scanner)
    scanner.skip(SAVED_SIGN if is_saved else KEPT_SIGN)
    return (content, read_digits(scanner) if is_saved else read_number(scanner))


def known_word(word, marks):
    """None or the mark that a word means."""
    value = None if word == "none" else word
    if not is_mark_or_none(value, marks):
        raise NoForm("none or a mark is due")
    return value


def read_trace(scanner, marks, depth):
    """The trace at the place; a derived value in it has at most this depth."""
    word = scanner.take(SMALL)
    if word == "":
        return read_digits(scanner)
    if scanner.is_next("("):
        return read_derived(scanner, word, marks, depth)
    return known_word(word, marks)


def read_derived(scanner, maker, marks, depth):
    """The derived value of at most this depth at the place, behind its maker."""
    if depth == 0 or not is_word(maker):
        raise NoForm("no derived value is due")
    scanner.skip("(")
    traces = [read_trace(scanner, marks, depth - 1)]
    if scanner.accepts(","):
        traces.append(read_trace(scanner, marks, depth - 1))
    scanner.skip(")")
    return (maker, *traces)


def read_value(scanner, level, marks, is_saved):
    """The entry of a field of this level at the place."""
    word = scanner.take(SMALL)
    if level > 0:
        return None if word == "none" else read_derived(scanner, word, marks, level)
    return known_word(word, marks) if word else read_thing(scanner, is_saved)


def check_index(entry, contents, memo):
    """Raise NoForm if the entry of a saved thing has an index that it cannot have behind copies of these contents."""
    content, index = entry
    if index == len(contents):
        contents.append(content)
    elif not memo or index > len(contents) or contents[index] != content:
        raise NoForm("another index is due")


def read_entry(written, field, passage, contents):
    """The entry of this field; contents has the content of each copy so far."""
    is_saved = field in passage.save
    levels = dict(passage.into.fields)
    scanner = Scanner(written)
    scanner.skip(f"{field}=")
    entry = read_value(scanner, levels[field], passage.into.library.marks, is_saved)
    scanner.finish()
    if is_saved and has_number(entry):
        check_index(entry, contents, passage.memo)
    return entry
