"""The forms of lines as patterns, told apart from the program: which line of a text is the first wrong one (15)."""

import re

from samples import RESERVED

WORD = rf"(?!(?:{'|'.join(RESERVED)})(?![a-z]))[a-z]{{1,8}}(?![a-z])"
CONSTANT = r"[A-Z]{1,8}(?![A-Z])"


def expression_pattern(makers):
    """The pattern of expressions in which makers stand at most so deep."""
    simple = rf"none(?![a-z])|self\.{WORD}|cls\.{CONSTANT}|{WORD}"
    if makers == 0:
        return rf"(?:{simple})"
    part = expression_pattern(makers - 1)
    return rf"(?:{WORD}\({part}(?:, {part})?\)|{simple})"


EXPRESSION = expression_pattern(3)
PATTERNS = {
    "marks": rf"marks(?: {WORD})*",
    "class": rf"class {WORD}(?:\({WORD}(?:, {WORD})*\))?:",
    "constant": rf"{CONSTANT} = (?:none|{WORD})",
    "field": rf"{WORD}(?:: [123]| = (?:none|{WORD}|cls\.{CONSTANT}))",
    "method": rf"(?:def|enter|leave) {WORD}\((?:{WORD}(?:, {WORD})*)?\)(?: -> [123])?:",
    "carry": r"carry(?: alone)?:",
    "keep": rf"keep(?: {WORD})+",
    "save": rf"save(?: {WORD})+",
    "row": rf"(?:(?:self\.)?{WORD} = |return |refuse ){EXPRESSION}",
    "super": rf"(?:{WORD} = )?super\((?:{EXPRESSION}(?:, {EXPRESSION})*)?\)",
    "if": rf"if {EXPRESSION} (?:is|is not|==|!=) {EXPRESSION}:",
    "else": r"else:",
}
COMPILED = {form: re.compile(pattern) for form, pattern in PATTERNS.items()}
ROWS = ("row", "super", "if", "else")
WITHIN = {
    "class": ("constant", "field", "method", "carry"), "method": ROWS, "if": ROWS, "else": ROWS,
    "carry": ("keep", "save") + ROWS,
}


def form_of(line, forms):
    """The form among these that a line has, or None."""
    return next((form for form in forms if COMPILED[form].fullmatch(line)), None)


def may_follow(form, before, parent):
    """Whether a line of a form may stand behind lines of these forms in one block."""
    if form == "else":
        return bool(before) and before[-1] == "if"
    if parent == "class":
        order = WITHIN["class"]
        return all(order.index(other) <= order.index(form) for other in before) and (
            form != "carry" or "carry" not in before)
    if form == "keep":
        return not before
    if form == "save":
        return before in ([], ["keep"])
    return True


def first_wrong_line(text):
    """The index of the first line of a text that has no form that may stand there, or None."""
    blocks = [["text", []]]
    for at, line in enumerate(text.split("\n")):
        told = line.lstrip(" ")
        blanks = len(line) - len(told)
        if blanks % 4 or blanks // 4 >= len(blocks):
            return at
        del blocks[blanks // 4 + 1:]
        parent, before = blocks[-1]
        forms = (("class",) if at else ("marks",)) if parent == "text" else WITHIN.get(parent, ())
        form = form_of(told, forms)
        if form is None or not may_follow(form, before, parent):
            return at
        before.append(form)
        blocks.append([form, []])
    return None
