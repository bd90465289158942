"""The package as a whole: its files, its interface, and the rules of its language that are quickly checked."""

import ast
import inspect
import pathlib
import unittest

from carriedfields import kinds, libraries

PACKAGE = pathlib.Path(kinds.__file__).resolve().parent
LIBRARY = ("heapq", "math", "itertools", "collections")
BUILTINS = (
    "len range enumerate zip min max sum abs sorted reversed int str bool bytes list tuple dict set"
    " frozenset isinstance ord repr any all divmod pow getattr hasattr setattr iter next map super"
    " Exception ValueError TypeError KeyError IndexError LookupError ZeroDivisionError ArithmeticError"
    " OverflowError RuntimeError NotImplementedError AttributeError StopIteration NotImplemented property"
    " staticmethod classmethod"
).split()


def parameters(function):
    """The parameters of a function as they are written."""
    return str(inspect.signature(function))


class InterfaceTest(unittest.TestCase):
    def test_where_the_classes_are_defined(self):
        for module, names in ((kinds, ("Method", "Carry", "Kind")), (libraries, ("Library", "Shape"))):
            for name in names:
                self.assertEqual(module.__name__, getattr(module, name).__module__)

    def test_parameters(self):
        self.assertEqual("(name, *params, rows=(), level=0, role=None)", parameters(kinds.Method))
        self.assertEqual("(*, keep=(), save=(), again=(), more=True)", parameters(kinds.Carry))
        self.assertEqual("(name, *bases, constants=(), fields=(), methods=(), carry=None)", parameters(kinds.Kind))
        self.assertEqual("(*kinds, marks=())", parameters(libraries.Library))

    def test_methods_stand_in_the_classes_themselves(self):
        for name in ("Method", "Carry", "Kind"):
            self.assertIn("__eq__", vars(getattr(kinds, name)))
        for name in ("__len__", "__contains__", "__getitem__", "__eq__"):
            self.assertIn(name, vars(libraries.Library))
        self.assertIn("__eq__", vars(libraries.Shape))

    def test_attributes_are_set_on_each_object(self):
        library = libraries.Library(kinds.Kind("a"))
        self.assertLessEqual({"kinds", "marks"}, set(vars(library)))
        self.assertLessEqual({"library", "name", "line", "fields", "firsts", "face"}, set(vars(library["a"])))


class LanguageTest(unittest.TestCase):
    def setUp(self):
        self.files = sorted(path for path in PACKAGE.rglob("*") if "__pycache__" not in path.parts)
        self.texts = {path.name: path.read_text(encoding="ascii") for path in self.files}

    def trees(self):
        return [(name, ast.parse(text)) for name, text in self.texts.items()]

    def test_files(self):
        for path in self.files:
            self.assertEqual(".py", path.suffix)
        for name in ("__init__.py", "errors.py", "kinds.py", "libraries.py"):
            self.assertIn(name, self.texts)

    def test_sizes(self):
        for name, text in self.texts.items():
            lines = text.split("\n")
            self.assertLessEqual(len(lines), 399, name)
            self.assertLessEqual(max(len(line) for line in lines), 120, name)
            self.assertTrue(all(" " <= letter <= "~" or letter == "\n" for letter in text), name)
        for name, tree in self.trees():
            for node in ast.walk(tree):
                if isinstance(node, ast.FunctionDef):
                    self.assertLessEqual(node.end_lineno - node.lineno + 1, 40, (name, node.name))

    def test_imports(self):
        for name, tree in self.trees():
            for node in ast.walk(tree):
                self.assertNotIsInstance(node, ast.Import, name)
                if isinstance(node, ast.ImportFrom):
                    self.assertTrue(node.module.startswith("carriedfields.") or node.module in LIBRARY, name)
                    self.assertEqual({None}, {alias.asname for alias in node.names})

    def test_statements_and_expressions(self):
        barred = (ast.Global, ast.AsyncFunctionDef, ast.Div)
        for name, tree in self.trees():
            for node in ast.walk(tree):
                self.assertNotIsInstance(node, barred, (name, getattr(node, "lineno", 0)))
                if isinstance(node, ast.Constant):
                    self.assertNotIsInstance(node.value, float, (name, node.lineno))
                if isinstance(node, ast.Compare) and isinstance(node.ops[0], (ast.Is, ast.IsNot)):
                    self.assertIn(ast.unparse(node.comparators[0]), ("None", "True", "False"), (name, node.lineno))

    def test_names_of_builtins(self):
        builtins = set(dir(__import__("builtins"))) - {"_"}
        for name, tree in self.trees():
            for node in ast.walk(tree):
                if isinstance(node, ast.Name) and node.id in builtins:
                    self.assertIn(node.id, BUILTINS, (name, node.lineno))
                    self.assertIsInstance(node.ctx, ast.Load, (name, node.lineno))
                if isinstance(node, ast.arg):
                    self.assertNotIn(node.arg, builtins, (name, node.lineno))


if __name__ == "__main__":
    unittest.main()
