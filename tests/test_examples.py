"""The examples of the document for what is there so far, and those of README.md."""

import doctest
import pathlib
import unittest

from contractheirs.cases import closes, decide
from contractheirs.conditions import Cond
from contractheirs.errors import BadLibrary


class Examples(unittest.TestCase):

    def test_conditions(self):
        cond = Cond.between('x', 1, 3) & Cond.equal('y', 'x', plus=1)
        self.assertEqual([cond({'x': 2, 'y': 3}), cond({'x': 4, 'y': 5}), cond.terms], [True, False, ('x', 'y')])

    def test_cases(self):
        rows = [(('x', 'y', -1),), (('y', 'x', 0),)]
        word, tree = decide(rows)
        self.assertEqual([word, closes(rows, tree), closes(rows[:1], tree)], ['closed', True, False])

    def test_errors(self):
        with self.assertRaises(BadLibrary) as caught:
            raise BadLibrary('a', 'ring')
        self.assertEqual((caught.exception.at, caught.exception.why), ('a', 'ring'))

    def test_readme(self):
        readme = pathlib.Path(__file__).parent.parent / "README.md"
        result = doctest.testfile(str(readme), module_relative=False)
        self.assertGreater(result.attempted, 5)
        self.assertEqual(result.failed, 0)


if __name__ == "__main__":
    unittest.main()
