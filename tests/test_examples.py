"""The examples of the document and of README.md."""

import doctest
import pathlib
import unittest

ROOT = pathlib.Path(__file__).resolve().parent.parent

DOCUMENT = """
>>> from everypast.shapes import Shape, line
>>> from everypast.middles import middle
>>> middle(Shape([0, 1, 1, 0]), 2, 3, 4)
1
>>> from everypast.stocks import Stock
>>> from everypast.tables import Table
>>> Table(Stock({"a": line(2), "b": line(1)}), [(0, 0), (1, 0), (1, 1)]).tight()
[(('a', -2),), (('a', 1), ('b', -1))]
>>> from everypast.clerks import Clerk
>>> Clerk(line(3), line(1), [1, 1, 0, 0]).pulled(1)
-2
>>> from everypast.families import Family
>>> from everypast.chains import chain, reached
>>> family = Family(Stock({"a": line(2), "b": line(1)}), [(("a", 1), ("b", 1)), (("a", -2), ("b", 1))])
>>> reached(family, ("b", -1))
[('a', 1), ('a', -2), ('b', -1)]
>>> chain(family, ("b", -1), ("a", -2))
([('b', -1), ('a', -2)], [1])
>>> from everypast.twins import near_twins
>>> near_twins(family, ("a", 2))
([1, 1], [2, 1])
>>> from everypast.tunnels import Tunnels
>>> from everypast.stairs import corners, stairs
>>> stairs(Tunnels([0, 1, 0], [2, 1, 3]), [1, 5, 3])
[[1, 2], [3]]
>>> corners(Tunnels([0, 1, 0], [2, 1, 3]), [1, 5, 3])
[(0, 0), (3, 6), (6, 9)]
"""


class Examples(unittest.TestCase):
    def check(self, text, name):
        examples = doctest.DocTestParser().get_doctest(text, {}, name, name, 0)
        self.assertGreater(len(examples.examples), 0)
        result = doctest.DocTestRunner(verbose=False).run(examples)
        self.assertEqual(result.failed, 0)

    def test_the_document(self):
        self.check(DOCUMENT, "document")

    def test_the_readme(self):
        text = (ROOT / "README.md").read_text(encoding="utf-8")
        examples = [part.split("```")[0] for part in text.split("```python\n")[1:]]
        self.assertEqual(len(examples), 3)
        # Each example goes on where the one before it ends.
        self.check("".join(examples), "README.md")


if __name__ == "__main__":
    unittest.main()
