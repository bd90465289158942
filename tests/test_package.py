"""The package as a whole: its files, its interface, and the rules of its language that are quickly checked."""

import ast
import inspect
import pathlib
import unittest

from carriedfields import comparing, keeping, kinds, libraries, moments, pairs, passages, running, texts, worlds

PACKAGE = pathlib.Path(kinds.__file__).resolve().parent
LIBRARY = ("heapq", "math", "itertools", "collections")
BUILTINS = (
    "len range enumerate zip min max sum abs sorted reversed int str bool bytes list tuple dict set"
    " frozenset isinstance ord repr any all divmod pow getattr hasattr setattr iter next map super"
    " Exception ValueError TypeError KeyError IndexError LookupError ZeroDivisionError ArithmeticError"
    " OverflowError RuntimeError NotImplementedError AttributeError StopIteration NotImplemented property"
    " staticmethod classmethod"
).split()


def parameters(function):
    """The parameters of a function as they are written."""
    return str(inspect.signature(function))


class InterfaceTest(unittest.TestCase):
    def test_where_the_classes_and_functions_are_defined(self):
        for module, names in (
            (kinds, ("Method", "Carry", "Kind")), (libraries, ("Library", "Shape")),
            (texts, ("library_text", "read_library")),
            (running, ("Run",)), (passages, ("Passage", "Route", "Saved")),
            (worlds, ("Callers", "world_of", "calls_at", "Worlds")),
            (pairs, ("Life", "Pair")), (comparing, ("compare", "is_paper")),
            (moments, ("Moments", "pattern", "is_moments")), (keeping, ("KeptSets", "is_kept_sets")),
        ):
            for name in names:
                self.assertEqual(module.__name__, getattr(module, name).__module__)

    def test_parameters(self):
        for function, written in (
            (kinds.Method, "(name, *params, rows=(), level=0, role=None)"),
            (kinds.Carry, "(*, keep=(), save=(), again=(), more=True)"),
            (kinds.Kind, "(name, *bases, constants=(), fields=(), methods=(), carry=None)"),
            (libraries.Library, "(*kinds, marks=())"),
            (texts.library_text, "(library)"),
            (texts.read_library, "(text)"),
            (running.Run, "(shape)"),
            (running.Run.set_up, "(shape, state)"),
            (running.Run.call, "(self, name, *things)"),
            (running.Run.play, "(self, history)"),
            (passages.Passage, "(shape, *, keep=(), save=(), again=(), memo=True, when=(), into=None, names=())"),
            (passages.Passage.__call__, "(self, values)"),
            (passages.Passage.of, "(shape, *, memo=True, when=())"),
            (passages.Passage.saved, "(self, values)"),
            (passages.Passage.loaded, "(self, saved)"),
            (passages.Route.__call__, "(self, values)"),
            (passages.Saved.read, "(passage, text)"),
            (worlds.Callers, "(*, times=None, look='equal', methods=None, fresh=False)"),
            (worlds.world_of, "(shape, state)"),
            (worlds.calls_at, "(shape, state, *, callers=None)"),
            (worlds.Worlds, "(shape, *, callers=None, most=400)"),
            (worlds.Worlds.depth, "(self, k)"),
            (worlds.Worlds.history, "(self, k)"),
            (worlds.Worlds.after, "(self, k, call)"),
            (pairs.Life, "(shape, route=None)"),
            (pairs.Pair, "(one, other, *, callers=None)"),
            (pairs.Pair.set_up, "(one, other, joint, *, callers=None)"),
            (pairs.Pair.steps, "(self)"),
            (pairs.Pair.do, "(self, step)"),
            (pairs.Pair.play, "(self, history)"),
            (comparing.compare, "(one, other, *, callers=None, most=400, start=None)"),
            (comparing.is_paper, "(one, other, thing, *, callers=None, start=None)"),
            (moments.Moments, "(route, *, callers=None, most=400)"),
            (moments.Moments.safe, "(self)"),
            (moments.pattern, "(shape, state)"),
            (moments.is_moments, "(route, thing, *, callers=None, most=400)"),
            (keeping.KeptSets, "(shape, *, by='save', again=(), memo=True, when=(), callers=None, most=400)"),
            (keeping.KeptSets.cheapest, "(self, costs)"),
            (keeping.is_kept_sets,
             "(shape, thing, *, by='save', again=(), memo=True, when=(), callers=None)"),
        ):
            self.assertEqual(written, parameters(function))

    def test_methods_stand_in_the_classes_themselves(self):
        for owner, names in (
            (kinds.Method, ("__eq__",)), (kinds.Carry, ("__eq__",)), (kinds.Kind, ("__eq__",)),
            (libraries.Library, ("__len__", "__contains__", "__getitem__", "__eq__")), (libraries.Shape, ("__eq__",)),
            (running.Run, ("__init__", "state", "is_within", "set_up", "call", "play")),
            (passages.Passage, ("__init__", "__call__", "__rshift__", "__len__", "__eq__", "of", "saved", "loaded")),
            (passages.Route, ("__call__", "__rshift__", "__len__", "__eq__")),
            (passages.Saved, ("__getitem__", "__contains__", "__len__", "__eq__", "__str__", "read")),
            (worlds.Callers, ("__init__", "__eq__")),
            (worlds.Worlds, ("__init__", "__len__", "__getitem__", "__contains__", "depth", "history", "after")),
            (pairs.Life, ("__init__", "__eq__")),
            (pairs.Pair, ("__init__", "set_up", "joint", "states", "steps", "do", "play")),
            (moments.Moments, ("__init__", "__len__", "safe")),
            (keeping.KeptSets, ("__init__", "__contains__", "cheapest")),
        ):
            for name in names:
                self.assertIn(name, vars(owner))
        for owner, name in (
            (running.Run, "set_up"), (passages.Passage, "of"), (passages.Saved, "read"), (pairs.Pair, "set_up"),
        ):
            self.assertIsInstance(vars(owner)[name], classmethod)
        for owner, name in (
            (running.Run, "state"), (running.Run, "is_within"), (pairs.Pair, "joint"), (pairs.Pair, "states"),
        ):
            self.assertIsInstance(vars(owner)[name], property)

    def test_attributes_are_set_on_each_object(self):
        library = libraries.Library(kinds.Kind("a"))
        passage = passages.Passage(library["a"])
        for thing, names in (
            (library, {"kinds", "marks"}), (library["a"], {"library", "name", "line", "fields", "firsts", "face"}),
            (running.Run(library["a"]), {"shape"}),
            (passage, {"shape", "into", "keep", "save", "names", "again", "memo", "when"}),
            (passages.Passage.of(library["a"]), {"shape", "into", "keep", "save", "names", "again", "memo", "when"}),
            (passage >> passage, {"legs", "shape", "into"}), (passage.saved(()), {"passage", "fields"}),
            (worlds.Callers(), {"times", "look", "methods", "fresh"}), (pairs.Life(library["a"]), {"shape", "route"}),
            (moments.Moments(passage), {"entries"}),
            (keeping.KeptSets(library["a"]), {"entries", "good", "least", "needed"}),
        ):
            self.assertLessEqual(names, set(vars(thing)))


class LanguageTest(unittest.TestCase):
    def setUp(self):
        self.files = sorted(path for path in PACKAGE.rglob("*") if "__pycache__" not in path.parts)
        self.texts = {path.name: path.read_text(encoding="ascii") for path in self.files}

    def trees(self):
        return [(name, ast.parse(text)) for name, text in self.texts.items()]

    def test_files(self):
        for path in self.files:
            self.assertEqual(".py", path.suffix)
        for name in (
            "__init__", "errors", "kinds", "libraries", "texts", "running", "passages", "worlds", "pairs", "comparing",
            "moments", "keeping",
        ):
            self.assertIn(f"{name}.py", self.texts)

    def test_sizes(self):
        for name, text in self.texts.items():
            lines = text.split("\n")
            self.assertLessEqual(len(lines), 399, name)
            self.assertLessEqual(max(len(line) for line in lines), 120, name)
            self.assertTrue(all(" " <= letter <= "~" or letter == "\n" for letter in text), name)
        for name, tree in self.trees():
            for node in ast.walk(tree):
                if isinstance(node, ast.FunctionDef):
                    self.assertLessEqual(node.end_lineno - node.lineno + 1, 40, (name, node.name))

    def test_imports(self):
        for name, tree in self.trees():
            for node in ast.walk(tree):
                self.assertNotIsInstance(node, ast.Import, name)
                if isinstance(node, ast.ImportFrom):
                    self.assertTrue(node.module.startswith("carriedfields.") or node.module in LIBRARY, name)
                    self.assertEqual({None}, {alias.asname for alias in node.names})

    def test_statements_and_expressions(self):
        barred = (ast.Global, ast.AsyncFunctionDef, ast.Div)
        for name, tree in self.trees():
            for node in ast.walk(tree):
                self.assertNotIsInstance(node, barred, (name, getattr(node, "lineno", 0)))
                if isinstance(node, ast.Constant):
                    self.assertNotIsInstance(node.value, float, (name, node.lineno))
                if isinstance(node, ast.Compare) and isinstance(node.ops[0], (ast.Is, ast.IsNot)):
                    self.assertIn(ast.unparse(node.comparators[0]), ("None", "True", "False"), (name, node.lineno))

    def test_what_the_language_does_not_have(self):
        barred = (ast.Lambda, ast.GeneratorExp)
        for name, tree in self.trees():
            for node in ast.walk(tree):
                place = (name, getattr(node, "lineno", 0))
                self.assertNotIsInstance(node, barred, place)
                for decorator in getattr(node, "decorator_list", []):
                    self.assertIn(ast.unparse(decorator), ("property", "classmethod"), place)
                if isinstance(node, ast.ExceptHandler):
                    self.assertIn(ast.unparse(node.type), ("NoForm", "CarriedError", "NotNow"), place)
                if isinstance(node, ast.Constant) and isinstance(node.value, str):
                    self.assertNotIn("%", node.value, place)

    def test_imports_go_one_way(self):
        needs = {}
        for name, tree in self.trees():
            modules = [node.module for node in ast.walk(tree) if isinstance(node, ast.ImportFrom)]
            needs[name] = {f"{module.partition('.')[2]}.py" for module in modules}
        while needs:
            free = [name for name in needs if not needs[name] & set(needs)]
            self.assertTrue(free, needs)
            for name in free:
                del needs[name]

    def test_names_of_builtins(self):
        builtins = set(dir(__import__("builtins"))) - {"_"}
        for name, tree in self.trees():
            for node in ast.walk(tree):
                if isinstance(node, ast.Name) and node.id in builtins:
                    self.assertIn(node.id, BUILTINS, (name, node.lineno))
                    self.assertIsInstance(node.ctx, ast.Load, (name, node.lineno))
                if isinstance(node, ast.arg):
                    self.assertNotIn(node.arg, builtins, (name, node.lineno))


if __name__ == "__main__":
    unittest.main()
