"""The examples of the document and of README.md."""

import doctest
import pathlib
import unittest

ROOT = pathlib.Path(__file__).resolve().parent.parent

DOCUMENT = """
>>> from carriedfields.kinds import Method
>>> put = Method("put", "x", rows=(("set", "item", "x"),))
>>> put.params
('x',)

>>> from carriedfields.kinds import Kind
>>> from carriedfields.libraries import Library
>>> library = Library(Kind("a"), Kind("b", "a"), Kind("c", "a"), Kind("d", "b", "c"))
>>> library["d"].line
('d', 'b', 'c', 'a')
"""


class ExamplesTest(unittest.TestCase):
    def check_examples(self, text, name):
        test = doctest.DocTestParser().get_doctest(text, {}, name, name, 0)
        self.assertTrue(test.examples)
        said = []
        result = doctest.DocTestRunner().run(test, out=said.append)
        self.assertEqual(0, result.failed, "".join(said))

    def test_document(self):
        self.check_examples(DOCUMENT, "DOC.md")

    def test_readme(self):
        self.check_examples((ROOT / "README.md").read_text(encoding="utf-8"), "README.md")


if __name__ == "__main__":
    unittest.main()
