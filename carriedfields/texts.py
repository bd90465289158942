"""Libraries as texts, written and read (point 15)."""

from carriedfields.errors import BadText, CarriedError
from carriedfields.kinds import Carry, Kind, Method
from carriedfields.libraries import Library
from carriedfields.reading import Line, check_place, read_within
from carriedfields.scanning import NoForm, Scanner
from carriedfields.writing import INDENT, kind_lines


def library_text(library):
    """A library as it is written."""
    lines = [" ".join(["marks", *library.marks])]
    for kind in library.kinds:
        lines.extend(kind_lines(kind))
    return "\n".join(lines)


def read_line(written, at, path):
    """Put a line into the last line of the path that it stands within; the path leads to it then."""
    scanner = Scanner(written)
    depth = 0
    while scanner.accepts(INDENT):
        depth += 1
    if depth >= len(path):
        raise NoForm("no line is there that this one could stand within")
    parent = path[depth]
    line = read_within(scanner, parent, at)
    scanner.finish()
    check_place(line, parent)
    parent.inner.append(line)
    path[depth + 1:] = [line]


def read_lines(text):
    """The first lines of a text, the one of marks and those of classes, with all lines within them."""
    top = Line("text", None, -1)
    path = [top]
    for at, written in enumerate(text.split("\n")):
        try:
            read_line(written, at, path)
        except NoForm:
            raise BadText(at) from None
    return top.inner


def rows_of(lines):
    """The rows that stand in lines of one block."""
    rows = []
    for line in lines:
        if line.form == "else":
            rows[-1] = rows[-1][:5] + (rows_of(line.inner),)
        elif line.form == "if":
            rows.append(("if", *line.told, rows_of(line.inner), ()))
        else:
            rows.append(line.told)
    return tuple(rows)


def told_by(lines, form):
    """What the lines of this form say."""
    return tuple([line.told for line in lines if line.form == form])


def method_of(line):
    """The method that begins with a line."""
    name, params, level, role = line.told
    rows = rows_of(line.inner)
    try:
        return Method(name, *params, rows=rows, level=level, role=role)
    except CarriedError:
        raise BadText(line.at) from None


def carry_of(line):
    """The carry that begins with a line."""
    keep = [word for words in told_by(line.inner, "keep") for word in words]
    save = [word for words in told_by(line.inner, "save") for word in words]
    rows = rows_of([inner for inner in line.inner if inner.form not in ("keep", "save")])
    try:
        return Carry(keep=tuple(keep), save=tuple(save), again=rows, more=line.told)
    except CarriedError:
        raise BadText(line.at) from None


def kind_of(line):
    """The kind that begins with a line."""
    name, bases = line.told
    methods = tuple([method_of(inner) for inner in line.inner if inner.form == "method"])
    carries = [carry_of(inner) for inner in line.inner if inner.form == "carry"]
    carry = carries[0] if carries else None
    constants = told_by(line.inner, "constant")
    fields = told_by(line.inner, "field")
    try:
        return Kind(name, *bases, constants=constants, fields=fields, methods=methods, carry=carry)
    except CarriedError:
        raise BadText(line.at) from None


def read_library(text):
    """The library that is written in a text."""
    if not isinstance(text, str):
        raise BadText(-1)
    marks, *classes = read_lines(text)
    kinds = [kind_of(line) for line in classes]
    names = marks.told
    return Library(*kinds, marks=names)
