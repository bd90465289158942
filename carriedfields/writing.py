"""How the parts of a library are written in lines (point 15)."""

INDENT = "    "


def indented(lines):
    """Lines within another line."""
    return [INDENT + line for line in lines]


def expression_text(expression):
    """An expression as it is written."""
    if expression is None:
        return "none"
    if isinstance(expression, str):
        return expression
    if expression[0] in ("self", "cls"):
        return ".".join(expression)
    return call_text(expression[0], expression[1:])


def call_text(name, expressions):
    """A name with expressions in parentheses."""
    parts = ", ".join([expression_text(expression) for expression in expressions])
    return f"{name}({parts})"


def row_text(row):
    """A row that is no if, as it is written."""
    if row[0] == "set":
        return f"self.{row[1]} = {expression_text(row[2])}"
    if row[0] == "let":
        return f"{row[1]} = {expression_text(row[2])}"
    if row[0] == "super":
        call = call_text("super", row[2:])
        return call if row[1] is None else f"{row[1]} = {call}"
    return f"{row[0]} {expression_text(row[1])}"


def if_lines(row):
    """The lines of an if, with its rows."""
    head = f"if {expression_text(row[1])} {row[2]} {expression_text(row[3])}:"
    lines = [head, *indented(rows_lines(row[4]))]
    if row[5]:
        lines.extend(["else:", *indented(rows_lines(row[5]))])
    return lines


def rows_lines(rows):
    """The lines of rows."""
    lines = []
    for row in rows:
        lines.extend(if_lines(row) if row[0] == "if" else [row_text(row)])
    return lines


def field_text(field):
    """A field as it is written."""
    name, level, first = field
    return f"{name}: {level}" if level > 0 else f"{name} = {expression_text(first)}"


def method_lines(method):
    """The lines of a method."""
    word = "def" if method.role is None else method.role
    head = f"{word} {call_text(method.name, method.params)}"
    if method.level > 0:
        head = f"{head} -> {method.level}"
    return [f"{head}:", *indented(rows_lines(method.rows))]


def carry_lines(carry):
    """The lines of a carry."""
    inner = []
    if carry.keep:
        inner.append(" ".join(["keep", *carry.keep]))
    if carry.save:
        inner.append(" ".join(["save", *carry.save]))
    inner.extend(rows_lines(carry.again))
    return ["carry:" if carry.more else "carry alone:", *indented(inner)]


def kind_lines(kind):
    """The lines of a kind."""
    bases = ", ".join(kind.bases)
    inner = [f"{name} = {expression_text(value)}" for name, value in kind.constants]
    inner.extend([field_text(field) for field in kind.fields])
    for method in kind.methods:
        inner.extend(method_lines(method))
    if kind.carry is not None:
        inner.extend(carry_lines(kind.carry))
    return [f"class {kind.name}({bases}):" if bases else f"class {kind.name}:", *indented(inner)]
