"""The examples of the document and of README.md."""

import doctest
import pathlib
import unittest

from carriedfields.running import Run
from carriedfields.texts import read_library
from samples import SHEET_TEXT

ROOT = pathlib.Path(__file__).resolve().parent.parent

DOCUMENT = """
>>> from carriedfields.kinds import Method
>>> put = Method("put", "x", rows=(("set", "item", "x"),))
>>> put.params
('x',)

>>> from carriedfields.kinds import Kind
>>> from carriedfields.libraries import Library
>>> library = Library(Kind("a"), Kind("b", "a"), Kind("c", "a"), Kind("d", "b", "c"))
>>> library["d"].line
('d', 'b', 'c', 'a')

>>> from carriedfields.kinds import Kind
>>> from carriedfields.libraries import Library
>>> from carriedfields.passages import Passage
>>> shape = Library(Kind("pair", fields=(("a", 0, None), ("b", 0, None))))["pair"]
>>> passage = Passage(shape, save=("a", "b"))
>>> str(passage.saved(((7, 2), (7, 2))))
'a=7#0; b=7#0'

>>> passage(((7, 2), (7, 3)))
((7, -1), (7, -2))

>>> from carriedfields.kinds import Kind, Method
>>> from carriedfields.libraries import Library
>>> from carriedfields.worlds import Worlds
>>> put = Method("put", "x", rows=(("set", "item", "x"),))
>>> shape = Library(Kind("box", fields=(("item", 0, None),), methods=(put,)))["box"]
>>> worlds = Worlds(shape)
>>> [len(worlds), worlds[1], worlds.depth(1)]
[2, (((0, 0),), False), 1]

>>> from carriedfields.kinds import Kind, Method
>>> from carriedfields.libraries import Library
>>> from carriedfields.passages import Passage
>>> from carriedfields.pairs import Life
>>> from carriedfields.comparing import compare, is_paper
>>> put = Method("put", "x", rows=(("set", "item", "x"),))
>>> get = Method("get", rows=(("return", ("self", "item")),))
>>> shape = Library(Kind("box", fields=(("item", 0, None),), methods=(put, get)))["box"]
>>> one, other = Life(shape), Life(shape, Passage(shape))
>>> history = (("call", "put", (4, 1)), ("pass",), ("call", "get"))
>>> [compare(one, other)[0], len(compare(one, other)[1]), is_paper(one, other, ("parted", history))]
['parted', 3, True]

>>> from carriedfields.kinds import Kind, Method
>>> from carriedfields.libraries import Library
>>> from carriedfields.keeping import KeptSets
>>> put = Method("put", "x", rows=(("set", "item", "x"), ("set", "last", None)))
>>> get = Method("get", rows=(("return", ("self", "item")),))
>>> shape = Library(Kind("box", fields=(("item", 0, None), ("last", 0, None)), methods=(put, get)))["box"]
>>> sets = KeptSets(shape)
>>> [sets.good, sets.least, sets.needed]
[(('item',), ('item', 'last')), (('item',),), ('item',)]

>>> sets.cheapest({"item": 3, "last": 0})
(3, (('item',), ('item', 'last')))
"""


class ExamplesTest(unittest.TestCase):
    def check_examples(self, text, name):
        test = doctest.DocTestParser().get_doctest(text, {}, name, name, 0)
        self.assertTrue(test.examples)
        said = []
        result = doctest.DocTestRunner().run(test, out=said.append)
        self.assertEqual(0, result.failed, "".join(said))

    def test_document(self):
        self.check_examples(DOCUMENT, "DOC.md")

    def test_sheet(self):
        # The example of point 15: the derived field goes stale.
        run = Run(read_library(SHEET_TEXT)["sheet"])
        run.play((("call", "put", (5, 0)), ("call", "show"), ("call", "rest", "done")))
        self.assertEqual((((5, 0), ("page", 5, "draft"), "done"), False), run.state)

    def test_readme(self):
        self.check_examples((ROOT / "README.md").read_text(encoding="utf-8"), "README.md")


if __name__ == "__main__":
    unittest.main()
