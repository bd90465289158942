"""Texts that are wrong (15): which line is the first wrong one, which object cannot be made, and then the library."""

import itertools
import unittest

from carriedfields.errors import BadLibrary, BadText, CarriedError
from carriedfields.kinds import Kind
from carriedfields.libraries import Library
from carriedfields.texts import library_text, read_library
from grammar import first_wrong_line
from samples import ODD, RESERVED, SHEET_TEXT, Case, nested_maker

# One line of each form, in lines that make sense together.
FORMS = """marks red blue
class a:
    C = red
    D = none
    f = none
    g = red
    h = cls.C
    i: 1
    def m():
        self.f = none
        w = red
        return w
    enter n(x, y) -> 2:
        w = super(x, self.f)
        super(w, cls.C)
        refuse x
    leave o(x):
        if x is y:
            x = none
        else:
            if x is not none:
                self.i = page(x, leaf(y))
        if self.f == red:
        if y != x:
            x = none
    carry:
        keep f g
        save h
        self.f = w
class b(a):
    carry alone:
class c(a, b):"""

# Text that leads to a line of a part of a class, of a row or of a part of a carry.
TOP = "marks"
IN_CLASS = "marks\nclass a:"
IN_METHOD = "marks\nclass a:\n    def m():"
IN_CARRY = "marks\nclass a:\n    carry:"
IN_IF = "marks\nclass a:\n    def m():\n        if none is none:"


class ReadCase(Case):
    def check_line(self, at, text):
        self.assertEqual(at, first_wrong_line(text), text)
        self.check_raises(BadText, {"at": at}, read_library, text)

    def check_object(self, at, *lines):
        """All lines have their forms, but the object that begins with this one cannot be made."""
        text = "\n".join(lines)
        self.assertIsNone(first_wrong_line(text), text)
        self.check_raises(BadText, {"at": at}, read_library, text)

    def check_library(self, at, part, *lines):
        self.check_raises(BadLibrary, {"at": at, "part": part}, read_library, "\n".join(lines))

    def check_by_grammar(self, text):
        """The text is read as the patterns of grammar say."""
        at = first_wrong_line(text)
        try:
            library = read_library(text)
        except BadText as error:
            lines = text.split("\n")
            if at is None:
                begins = ("class ", "    def ", "    enter ", "    leave ", "    carry")
                self.assertTrue(lines[error.at].startswith(begins), text)
            else:
                self.assertEqual(at, error.at, text)
        except BadLibrary:
            self.assertIsNone(at, text)
        else:
            self.assertIsNone(at, text)
            self.assertEqual(library, read_library(library_text(library)))


class LinesTest(ReadCase):
    def test_each_sign_less(self):
        for text in (FORMS, SHEET_TEXT):
            for at in range(len(text)):
                self.check_by_grammar(text[:at] + text[at + 1:])

    def test_each_sign_more(self):
        for at in range(len(FORMS) + 1):
            for sign in " \n\ta:":
                self.check_by_grammar(FORMS[:at] + sign + FORMS[at:])

    def test_each_sign_changed(self):
        for at in range(len(FORMS)):
            for sign in " xA1.":
                self.check_by_grammar(FORMS[:at] + sign + FORMS[at + 1:])

    def test_other_signs(self):
        for at in range(0, len(FORMS), 7):
            for sign in ("\r", "\x0b", "\x0c", "\x1c", "\x85", "\u2028", "\xa0", "\xe9", "\u0430", "_", "#", ",", "("):
                self.check_by_grammar(FORMS[:at] + sign + FORMS[at:])

    def test_each_line_less_twice_and_elsewhere(self):
        lines = FORMS.split("\n")
        for at, line in enumerate(lines):
            self.check_by_grammar("\n".join(lines[:at] + lines[at + 1:]))
            for where in range(len(lines) + 1):
                self.check_by_grammar("\n".join(lines[:where] + [line] + lines[where:]))

    def test_each_line_indented_otherwise(self):
        lines = FORMS.split("\n")
        for at, line in enumerate(lines):
            for blanks in range(22):
                changed = " " * blanks + line.lstrip(" ")
                self.check_by_grammar("\n".join(lines[:at] + [changed] + lines[at + 1:]))

    def test_a_blank_more(self):
        lines = FORMS.split("\n")
        for at, line in enumerate(lines):
            for wrong in (line + " ", " " + line, line + "\t", "\t" + line, line.replace("    ", "\t", 1) + "\t",
                          line + "\r"):
                self.check_line(at, "\n".join(lines[:at] + [wrong] + lines[at + 1:]))

    def test_empty_lines(self):
        lines = FORMS.split("\n")
        for at in range(len(lines) + 1):
            for wrong in ("", "    ", "        ", " ", "\t"):
                self.check_line(at, "\n".join(lines[:at] + [wrong] + lines[at:]))

    def test_empty_text_and_line_feeds(self):
        self.check_line(0, "")
        self.check_line(0, "\n")
        self.check_line(0, "\n" + FORMS)
        self.check_line(1, "marks\n")
        self.check_line(FORMS.count("\n") + 1, FORMS + "\n")
        self.check_line(FORMS.count("\n") + 1, FORMS + "\n\n")

    def test_lines_of_marks(self):
        for line in (
            "marks ", " marks", "mark", "Marks", "marks  red", "marks red ", "marks red  blue", "marks, red", "marks:",
            "marks red,blue", "marks Red", "marks RED", "marks none", "marks red2", "marks abcdefghi", "class a:",
            "marksred", "marks red self", "marks (red)", "marks\tred", "marks red:", "def m():", "marks 1",
        ):
            self.check_line(0, f"{line}\nclass a:")

    def test_lines_of_classes(self):
        for line in (
            "class a", "class:", "class :", "class a :", "class  a:", "class a():", "class a( b):", "class a(b ):",
            "class a(b,c):", "class a(b,  c):", "class a(b, c,):", "class a(b, ):", "class a (b):", "class a(b)",
            "class a(b) :", "class A:", "class a(B):", "class none:", "class a(self):", "class abcdefghi:", "classa:",
            "class a(b:", "class a)b(:", "class a(b)c:", "class a::", "Class a:", "kind a:", "class a(b c):",
            "class a:red", "class a(none):", "class a.b:", "marks", "marks red", "def m():", "a = none", "carry:",
            "A = none", "return none", "else:", "keep a", "class a(abcdefghi):", "class a(b), c:",
        ):
            self.check_line(1, f"{TOP}\n{line}")
            self.check_line(2, f"{TOP}\nclass z:\n{line}\nclass y:")

    def test_lines_of_constants_and_fields(self):
        for line in (
            "A = ", "A =none", "A= none", "A=none", "A  = none", "A =  none", "A = none ", "A : none", "A: none",
            "A: 1",
            "A = cls.B", "A = self.b", "A = B", "A = page(x)", "A = None", "A = 1", "A", "ABCDEFGHI = none",
            "Ab = none",
            "A = Red", "A = abcdefghi", "A, B = none", "A = none:", "A = none, none", "A = super()", "A == none",
            "A1 = none", "aB = none", "a = B", "a = self.b", "a = page(x)", "a = page()", "a = cls.b", "a = cls.",
            "a = cls",
            "a = cls.ABCDEFGHI", "a = cls.B.C", "a = CLS.B", "a = 1", "a: 0", "a: 4", "a: 12", "a: ", "a:1", "a : 1",
            "a:  1", "a: 1 ", "a: one", "a: -1", "a: \u0661", "a: 1 = none", "a = none: 1", "a", "a =", "none = none",
            "none: 1", "self = none", "a = super()", "abcdefghi = none", "abcdefghi: 1", "self.a = none",
            "a = none none",
            "a = nonesuchs", "a = not", "thing = none", "a is none", "a: 1:", "a: 11", "a: 01", "a = cls. B",
        ):
            self.check_line(2, f"{IN_CLASS}\n    {line}")

    def test_lines_of_methods(self):
        for line in (
            "def m()", "def m:", "def m( ):", "def  m():", "def m ():", "def m() :", "def m(x,y):", "def m(x , y):",
            "def m(x, ):", "def m(x,):", "def m(, x):", "def m(x y):", "def m(x,  y):", "def m(X):", "def m(none):",
            "def M():", "def self():", "def abcdefghi():", "def m(abcdefghi):", "def m() -> 0:", "def m() -> 4:",
            "def m() -> 10:", "def m() -> :", "def m() ->1:", "def m()-> 1:", "def m()->1:", "def m() ->  1:",
            "def m() -> 1",
            "def m() -> 1 :", "def m() - > 1:", "def m() -> none:", "def m() -> \u0662:", "def m(): 1", "defm():",
            "Def m():", "role m():", "enter m()", "enter  m():", "enter m(x,y):", "enter m() -> 0:", "enterm():",
            "leave m:",
            "leave m( ):", "leave m() -> 4:", "enter def m():", "def enter m():", "def enter():", "enter leave():",
            "enter:", "leave:", "def:", "def ():", "def m((x)):", "def m(x):return x", "def m(self.x):",
            "def m(x, y)):",
            "def m(x):y", "return none", "super()", "if none is none:", "else:", "w = super()", "keep a", "save a",
            "class b:", "marks", "marks red", "def", "enter",
        ):
            self.check_line(2, f"{IN_CLASS}\n    {line}")

    def test_lines_of_carries(self):
        for line in (
            "carry", "carry :", "carry: ", "carry alone", "carry  alone:", "carry alone :", "carry Alone:",
            "carry more:",
            "carry alone alone:", "Carry:", "carry():", "carryalone:", "carry = none", "carry: 1", "alone:", "carry a:",
        ):
            self.check_line(2, f"{IN_CLASS}\n    {line}")
        for line in (
            "keep", "keep ", "keep  a", "keep a ", "keep a  b", "keep a, b", "keep A", "keep none", "keep:", "keep: a",
            "keep a b self", "keep abcdefghi", "Keep a", "keep = none", "keep self.a", "save", "save ", "save a  b",
            "save a,b",
            "save B", "save thing", "save:", "save a save b", "keepa", "def m():", "a: 1", "A = none", "carry:",
            "class b:", "x", "else:", "keep 1", "keep a:",
        ):
            self.check_line(3, f"{IN_CARRY}\n        {line}")

    def test_lines_of_rows(self):
        for line in (
            "self.a =none", "self.a= none", "self.a  = none", "self.a =  none", "self.a = ", "self.a", "self.A = none",
            "self. a = none", "self .a = none", "self.none = none", "self.abcdefghi = none", "self.a.b = none",
            "cls.A = none", "self.a = super()", "self.a = super(x)", "self = none", "none = none", "w =none", "w= none",
            "w  = none", "w =  none", "w = ", "w", "w = x = y", "W = none", "w = W", "w: 1", "w = 1", "w = None",
            "w == x",
            "abcdefghi = none", "w = abcdefghi", "return", "return ", "return  none", "return none ", "return: none",
            "returnnone", "return(none)", "return none, none", "return X", "return return", "refuse", "refuse ",
            "refuse  x", "refuse x y", "refuse: x", "refusex", "return super()", "refuse super()", "Return none",
            "super", "super:", "super ()", "super( )", "super(x,y)", "super(x , y)", "super(x, )", "super(, x)",
            "super(x",
            "super(x))", "super((x))", "super(x y)", "super(x,  y)", "super()()", "super(X)", "super(super())",
            "super(x) ",
            "w = super", "w =super()", "w = super( x)", "w = super(x,)", "W = super()", "none = super()",
            "cls = super()",
            "w = super() ", "w = super(x)y", "w = Super()", "super.m()", "super(x): y", "self.a = Page(x)",
            "def m():", "carry:", "keep a", "save a", "class b:", "marks", "pass", "pass()", "x()", "page(x)", "(x)",
            "w = (x)",
        ):
            self.check_line(3, f"{IN_METHOD}\n        {line}")
            self.check_line(4, f"{IN_IF}\n            {line}")
            if line not in ("keep a", "save a"):
                self.check_line(3, f"{IN_CARRY}\n        {line}")

    def test_lines_of_ifs(self):
        for line in (
            "if x is y", "if x is y :", "if  x is y:", "if x  is y:", "if x is  y:", "if x is y: ", "if x:", "if x is:",
            "if is y:", "if x y:", "if x = y:", "if x=y:", "if x==y:", "if x ==y:", "if x== y:", "if x == y",
            "if x !=y:",
            "if x ! = y:", "if x <> y:", "if x is  not y:", "if x isnot y:", "if x not is y:", "if not x is y:",
            "if x is not:",
            "if x is not y", "if x is not  y:", "if x in y:", "if x < y:", "if (x is y):", "if(x is y):", "ifx is y:",
            "if x is y is z:", "if x is y and x is z:", "If x is y:", "if X is y:", "if x is Y:", "if x is super():",
            "if super() is x:", "if x Is y:", "if x === y:", "if x is not not y:", "if x is y: return x",
            "if x is y:else:",
            "elif x is y:", "if x is self:", "if cls is x:", "if self.X is y:", "if cls.x is y:", "if x is is y:",
        ):
            self.check_line(3, f"{IN_METHOD}\n        {line}")
        for line in ("else", "else :", "else: ", " else:", "Else:", "else x:", "else if x is y:", "else::", "else:x"):
            self.check_line(4, f"{IN_IF}\n        {line}")

    def test_expressions(self):
        for expression in (
            "", " ", "None", "NONE", "1", "-", "self", "self.", "self.A", "self.none", "self.a.b", "cls", "cls.",
            "cls.a",
            "cls.Aa", "cls.ABCDEFGHI", "self.abcdefghi", "abcdefghi", "page()", "page( x)", "page(x )", "page (x)",
            "page(x",
            "page x)", "page(x,y)", "page(x,  y)", "page(x , y)", "page(x, y, z)", "page(x, )", "page(, x)", "page(x))",
            "Page(x)", "PAGE(x)", "none(x)", "self(x)", "self.a(x)", "cls.A(x)", "thing(x)", "page(page)(x)",
            "page(x)(y)",
            "page((x))", "(x)", "x y", "x, y", "page(x).y", "a.b", "x.", ".x", "page(super())", "page[x]", "\"x\"",
            "x+y",
            "page(x y)", "page(x: y)", "not x", "x is y", "page(self.A)", "page(x, self)", "page(none, cls.a)",
            "page(page(page(page(x))))", "page(x, page(x, page(x, page(x, y))))",
            "page(page(page(x), page(page(x))), x)",
            "page(page(page(page)))x",
        ):
            for line in (
                "self.a = {}", "w = {}", "return {}", "refuse {}", "super({}, x)", "super(x, {})",
                "w = super(x, {}, y)",
                "if {} is x:", "if x is not {}:", "if x == {}:", "if {} != x:",
            ):
                text = f"{IN_METHOD}\n        {line.format(expression)}"
                # A super may have more expressions than one.
                if expression != "x, y" or "super" not in line:
                    self.check_line(3, text)

    def test_right_expressions(self):
        for expression in (
            "none", "x", "abcdefgh", "self.a", "self.abcdefgh", "cls.A", "cls.ABCDEFGH", "page(none)", "page(x)",
            "page(self.a, cls.A)", "page(page(page(x)))", "page(page(x, page(x, y)), page(page(y, x), x))",
            "a(a(a), a)",
        ):
            for line in (
                "return {}", "refuse {}", "super({}, x)", "w = super(x, {})", "if {} is x:", "if {} is not {}:",
                "w = {}",
                "if x == {}:", "if {} != {}:",
            ):
                text = f"{IN_METHOD}\n        {line.replace('{}', expression)}\n        while"
                self.check_line(4, text)

    def test_reserved_words(self):
        for word in RESERVED:
            for line in (
                f"marks {word}", f"marks red {word}", f"marks\nclass {word}:", f"marks\nclass a({word}):",
                f"{IN_CLASS}\n    {word}: 1", f"{IN_CLASS}\n    {word} = none", f"{IN_CLASS}\n    def {word}():",
                f"{IN_CLASS}\n    def m({word}):", f"{IN_CLASS}\n    leave m(x, {word}):",
                f"{IN_METHOD}\n        {word} = none",
                f"{IN_METHOD}\n        {word} = super()", f"{IN_METHOD}\n        self.{word} = none",
                f"{IN_METHOD}\n        self.a = {word}(x)", f"{IN_CARRY}\n        keep {word}",
                f"{IN_CARRY}\n        save a {word}",
            ):
                self.check_line(line.count("\n"), line)
            if word != "none":
                for line in (
                    f"{IN_CLASS}\n    A = {word}", f"{IN_CLASS}\n    a = {word}", f"{IN_METHOD}\n        return {word}",
                    f"{IN_METHOD}\n        w = {word}", f"{IN_METHOD}\n        if x is {word}:",
                ):
                    self.check_line(line.count("\n"), line)

    def test_makers_in_very_long_lines(self):
        deep = "a(" * 24000 + "x"
        for expression in (deep, "a(" * 16000 + "x" + ")" * 16000, "a(x, " * 9000, "a(" * 4 + "x" * 40000):
            for line in ("return {}", "self.a = {}", "w = super({})", "if {} is none:"):
                text = f"{IN_METHOD}\n        {line.format(expression)}"
                self.assertLess(len(text), 50000)
                self.check_raises(BadText, {"at": 3}, read_library, text)
                self.check_raises(BadText, {"at": 3}, read_library, f"{text}\n        x")
            for name in ("f", "C"):
                self.check_raises(BadText, {"at": 2}, read_library, f"{IN_CLASS}\n    {name} = {expression}")
        for line in ("x" * 49000, "return " + "(" * 49000, " " * 49000, " " * 49000 + "x", "a." * 20000,
                     "w = " * 12000):
            self.check_raises(BadText, {"at": 3}, read_library, f"{IN_METHOD}\n        {line}")
            self.check_raises(BadText, {"at": 0}, read_library, line)

    def test_very_long_lines_with_a_form(self):
        broad = "super(" + ", ".join(["a(b(c(x)))"] * 4000) + ")"
        self.check_library(0, "rows", IN_METHOD, "        " + broad)
        self.check_library(-1, "marks", "marks" + " red" * 12000, "class a:")
        self.check_library(0, "bases", "marks", "class a(" + ", ".join(["a"] * 16000) + "):")
        self.check_object(3, "marks", "class b:", "class a:", "    def m(" + ", ".join(["x"] * 16000) + "):")
        self.check_object(2, IN_CARRY, "        keep" + " a" * 20000)

    def test_very_deep_ifs(self):
        lines = ["    " * depth + "if none is none:" for depth in range(2, 150)]
        self.check_object(2, IN_METHOD, *lines)
        self.check_line(151, "\n".join([IN_METHOD, *lines, "else:"]))
        self.check_object(2, IN_METHOD, *lines, "        else:", "            return none")


class PlacesTest(ReadCase):
    def test_order_of_the_parts_of_a_class(self):
        parts = {
            "constant": "    A = none", "other": "    B = none", "field": "    f = none", "derived": "    g: 1",
            "method": "    def m():", "entering": "    enter n():", "carry": "    carry:", "alone": "    carry alone:",
        }
        ranks = {"constant": 0, "other": 0, "field": 1, "derived": 1, "method": 2, "entering": 2, "carry": 3,
                 "alone": 3}
        for one, other in itertools.permutations(parts, 2):
            text = "\n".join([IN_CLASS, parts[one], parts[other]])
            if ranks[one] > ranks[other] or ranks[one] == ranks[other] == 3:
                self.check_line(3, text)
            else:
                self.assertEqual(1, len(read_library(text)))
        for part in parts.values():
            for last in ("    carry:", "    carry:\n        keep f", "    carry alone:\n        w = none"):
                text = "\n".join([IN_CLASS, "    f = none", last, part])
                self.check_line(text.count("\n"), text)

    def test_order_of_the_parts_of_a_carry(self):
        parts = {"keep": "        keep f", "save": "        save g", "set": "        self.f = none",
                 "if": "        if none is none:", "let": "        w = none"}
        ranks = {"keep": 0, "save": 1, "set": 2, "if": 2, "let": 2}
        top = "\n".join([IN_CLASS, "    f = none", "    g = none", "    carry:"])
        for one, other in itertools.product(parts, repeat=2):
            text = "\n".join([top, parts[one], parts[other]])
            if ranks[one] > ranks[other] or one == other in ("keep", "save"):
                self.check_line(6, text)
            else:
                self.assertEqual(1, len(read_library(text)))
        for part in ("        keep g", "        save g"):
            self.check_line(7, "\n".join([top, "        keep f", "        w = none", part]))
            self.check_line(6, "\n".join([top, "        if none is none:", "    " + part]))
            self.check_line(3, f"{IN_METHOD}\n{part}")
        self.check_line(7, "\n".join([top, "        keep f", "        save g", "        keep f"]))
        self.check_line(7, "\n".join([top, "        keep f", "        save g", "        save g"]))

    def test_else(self):
        method = IN_METHOD
        good = "        if none is none:"
        wrong = [
            [method, "        else:"],
            [method, "        w = none", "        else:"],
            [method, good, "            else:"],
            [method, good, "            w = none", "            else:"],
            [method, good, "        else:", "        else:"],
            [method, good, "        else:", "            w = none", "        else:"],
            [method, good, "        w = none", "        else:"],
            [method, good, "            if none is none:", "                w = none", "            w = none",
             "            else:"],
            [method, good, "        else:", "            else:"],
            [method, good, "    else:"],
            [method, good, "    def n():", "        else:"],
            [IN_CARRY, "        else:"],
            [IN_CARRY, "        keep f", "        else:"],
            [method, "        super()", "        else:"],
        ]
        for lines in wrong:
            text = "\n".join(lines)
            self.check_line(text.count("\n"), text)
        right = [
            [method, good, "        else:"],
            [method, good, "            w = none", "        else:", "            w = none"],
            [method, good, "            if none is none:", "            else:", "        else:"],
            [method, good, "        else:", good, "        else:"],
            [method, good, good, "        else:"],
            [method, good, "            if none is none:", "                w = none", "        else:"],
            [IN_CARRY, good, "        else:"],
        ]
        for lines in right:
            self.assertEqual(1, len(read_library("\n".join(lines))))

    def test_lines_within_lines_that_have_none(self):
        for line in ("    A = none", "    f = none", "    f: 1"):
            for inner in ("        A = none", "        f = none", "        w = none", "        def m():",
                          "        else:"):
                self.check_line(3, "\n".join([IN_CLASS, line, inner]))
        for line in ("        w = none", "        self.f = none", "        return none", "        super()",
                     "        refuse none"):
            for inner in ("            w = none", "            if none is none:", "            else:"):
                self.check_line(4, "\n".join([IN_METHOD, line, inner]))
        for line in ("        keep f", "        save f", "        w = none"):
            for inner in ("            w = none", "            keep f", "            f = none"):
                self.check_line(4, "\n".join([IN_CARRY, line, inner]))
        for inner in ("    class a:", "    A = none", "    marks", "    red"):
            self.check_line(1, f"marks\n{inner}")
            self.check_line(1, f"marks red\n{inner}\nclass a:")

    def test_lines_that_are_indented_too_deep(self):
        self.check_line(0, "    marks\nclass a:")
        self.check_line(1, "marks\n    class a:")
        self.check_line(2, f"{IN_CLASS}\n        f = none")
        self.check_line(2, f"{IN_CLASS}\n        w = none\n    def m():")
        self.check_line(3, f"{IN_METHOD}\n            w = none")
        self.check_line(4, f"{IN_METHOD}\nclass b:\n        w = none")
        self.check_line(5, f"{IN_IF}\n    def n():\n            w = none")
        self.check_line(4, f"{IN_METHOD}\n    def n():\n            w = none")
        self.check_line(5, f"{IN_IF}\n            w = none\n                w = none")

    def test_the_first_wrong_line(self):
        lines = FORMS.split("\n")
        for first, second in itertools.combinations(range(len(lines)), 2):
            changed = list(lines)
            changed[first] += " "
            changed[second] = "?"
            self.check_line(first, "\n".join(changed))


class ObjectsTest(ReadCase):
    def test_methods_that_cannot_be_made(self):
        for head in ("def m(x, x):", "def m(x, y, z):", "enter m(a, b, a):", "leave m(x, x) -> 1:",
                     "def m(m, x, y, z):"):
            self.check_object(2, IN_CLASS, f"    {head}")
            self.check_object(4, IN_METHOD, "        w = none", f"    {head}", "        return none", "    def n():")
        self.check_object(2, IN_METHOD, *["        return none"] * 17)
        self.check_object(2, IN_METHOD, *["        if none is none:", "            return none"] * 9)
        self.assertEqual(1, len(read_library("\n".join([IN_METHOD] + ["        return none"] * 16))))
        self.check_object(2, IN_METHOD, *["    " * depth + "if none is none:" for depth in range(2, 8)])
        five = ["    " * depth + "if none is none:" for depth in range(2, 7)]
        self.check_object(2, IN_METHOD, *five, "    " * 7 + "w = none")
        self.check_object(2, IN_METHOD, *five, "    " * 6 + "else:", "    " * 7 + "w = none")
        self.assertEqual(1, len(read_library("\n".join([IN_METHOD, *five]))))

    def test_carries_that_cannot_be_made(self):
        for lines in (
            ["keep f f"], ["save f g f"], ["keep f", "save f"], ["keep f g", "save h g"], ["return none"], ["refuse x"],
            ["super()"], ["w = super()"], ["keep f", "w = none", "return none"],
            ["if none is none:", "    return none"],
            ["if none is none:", "else:", "    super()"], ["w = none"] * 17,
        ):
            inner = ["        " + line for line in lines]
            self.check_object(2, IN_CARRY, *inner)
            self.check_object(3, IN_METHOD, "    carry alone:", *inner, "class b:")
            self.check_object(4, "marks", "class b:", "class a:", "    f = none", "    carry:", *inner)

    def test_kinds_that_cannot_be_made(self):
        for lines in (
            ["A = none", "A = red"], ["f = none", "f: 1"], ["f = none", "g = none", "f = none"],
            ["def m():", "def m(x):"],
            ["def m():", "enter n():", "leave m():"], ["A = none", "B = none", "A = none", "f = none"],
        ):
            inner = ["    " + line for line in lines]
            self.check_object(1, IN_CLASS, *inner)
            self.check_object(2, "marks", "class b:", "class a(b):", *inner, "    carry:", "class c:")

    def test_the_first_object_that_ends(self):
        bad_method = ["    def m(x, x):", "        return x"]
        bad_carry = ["    carry:", "        keep f f"]
        twice = ["    f = none", "    f = none"]
        self.check_object(4, IN_CLASS, *twice, *bad_method, *bad_carry)
        self.check_object(4, IN_CLASS, *twice, *bad_carry)
        self.check_object(5, IN_CLASS, *twice, "    def m():", *bad_carry)
        self.check_object(1, IN_CLASS, *twice, "class b:", *bad_method)
        self.check_object(1, IN_CLASS, *twice, "class b:", *bad_carry)
        self.check_object(3, IN_CLASS, "    def k():", *bad_method, "    def n(x, y, z):")
        self.check_object(2, IN_CLASS, *bad_method, *bad_carry, "class b:", *bad_method)
        self.check_object(1, IN_CLASS, "    A = none", "    A = none", "    def m():", "    def m():")

    def test_lines_are_checked_ahead_of_objects(self):
        text = "\n".join([IN_CLASS, "    f = none", "    f = none", "    def m(x, x):", "    carry:",
                          "        keep f f"])
        self.check_line(7, f"{text}\n?")
        self.check_line(8, f"{text}\nclass b:\n    ?")
        self.check_line(7, f"{text}\n    def n():")

    def test_objects_are_made_ahead_of_the_library(self):
        self.check_object(4, "marks red red", "class a:", "class a(z):", "    f = blue", "    def m(x, x):")
        self.check_object(5, *["marks"] + ["class a:"] * 5, "    A = none", "    A = none")


class LibraryTest(ReadCase):
    def test_errors_of_libraries(self):
        self.check_library(-1, "kinds", "marks")
        self.check_library(-1, "kinds", "marks red red")
        self.check_library(-1, "kinds", "marks", "class a:", "class b:", "class c:", "class d:", "class e:")
        self.check_library(-1, "marks", "marks red red", "class a:")
        self.check_library(-1, "marks", "marks a b c d e", "class a:")
        self.check_library(1, "name", "marks", "class a:", "class a:")
        self.check_library(0, "bases", "marks", "class a(b):", "class b:")
        self.check_library(1, "bases", "marks", "class a:", "class b(a, a):")
        self.check_library(3, "line", "marks", "class a:", "class b(a):", "class c(b):", "class d(a, b):")
        self.check_library(0, "constants", "marks", "class a:", "    A = red")
        self.check_library(0, "fields", "marks", "class a:", "    f = cls.A")
        self.check_library(0, "fields", "marks", "class a:", "    f = red")
        self.check_library(0, "methods", "marks x", "class a:", "    def m(x):")
        self.check_library(1, "methods", "marks", "class a:", "    def m():", "class b:", "    enter m():")
        self.check_library(0, "rows", "marks", "class a:", "    def m():", "        return x")
        self.check_library(0, "rows", "marks", "class a:", "    def m():", "        super(none)")
        self.check_library(0, "carry", "marks", "class a:", "    carry:", "        keep f")
        self.check_library(0, "carry", "marks", "class a:", "    carry:", "        self.f = none")
        self.check_library(0, "size", "marks", "class a:", *[f"    {name}: 1" for name in "abcdef"])

    def test_the_order_of_the_marks_is_kept(self):
        self.assertEqual(("red", "blue"), read_library("marks red blue\nclass a:").marks)
        self.check_unequal(read_library("marks red blue\nclass a:"), read_library("marks blue red\nclass a:"))


class AnyValueTest(ReadCase):
    def test_what_is_no_string(self):
        library = Library(Kind("a"))
        for value in ODD + (None, b"marks", ["marks", "class a:"], ("marks", "class a:"), library, library["a"],
                            ("marks",)):
            if not isinstance(value, str):
                self.check_raises(BadText, {"at": -1}, read_library, value)

    def test_strings(self):
        for value in ODD:
            if isinstance(value, str):
                self.check_line(0, value)
        self.check_library(-1, "kinds", "marks")

    def test_errors_are_carried_errors(self):
        with self.assertRaises(CarriedError):
            read_library("")


if __name__ == "__main__":
    unittest.main()
