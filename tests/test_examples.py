"""The examples of the document, and those of README.md."""

import doctest
import pathlib
import unittest

from contractheirs.answers import answer
from contractheirs.bodies import check_client, sites
from contractheirs.cases import closes, decide
from contractheirs.checks import HeirEntry, HeirExit
from contractheirs.classes import ClassDef, Method
from contractheirs.conditions import Cond
from contractheirs.duties import duties, verdict
from contractheirs.errors import BadLibrary
from contractheirs.libraries import Library
from contractheirs.runs import breaches, run
from contractheirs.slots import Slot, line
from contractheirs.texts import shown


class Examples(unittest.TestCase):

    def test_conditions(self):
        cond = Cond.between('x', 1, 3) & Cond.equal('y', 'x', plus=1)
        self.assertEqual([cond({'x': 2, 'y': 3}), cond({'x': 4, 'y': 5}), cond.terms], [True, False, ('x', 'y')])

    def test_cases(self):
        rows = [(('x', 'y', -1),), (('y', 'x', 0),)]
        word, tree = decide(rows)
        self.assertEqual([word, closes(rows, tree), closes(rows[:1], tree)], ['closed', True, False])

    def test_ring(self):
        with self.assertRaises(BadLibrary) as caught:
            Library(ClassDef('b'), ClassDef('a', ('a',)))
        self.assertEqual((caught.exception.at, caught.exception.why), ('a', 'ring'))

    def test_two_classes_and_their_client(self):
        first = Method('m', (('x', 'int'),), 'int', pre=Cond.between('x', 0, 9), body=('return', ('x', 0)))
        second = Method('m', (('x', 'int'),), 'int', pre=Cond.between('x', 0, 5), body=('return', ('x', 1)))
        library = Library(ClassDef('a', methods=(first,)), ClassDef('b', ('a',), methods=(second,)))
        call = ('let', 'r', ('call', 't', 'm', (('', 7),)), ('return', ('r', 0)))
        client = ('let', 'o', ('new', 'b', ()), ('let', 't', ('as', 'o', 'a'), call))
        self.assertIs(check_client(library, client), None)
        self.assertEqual(list(sites(library, 'b', 'm')), [('b', 'm', ())])
        slot = Slot('call', 'a', 'm')
        self.assertEqual((slot(library, 'b'), line(library, slot, 'b')), ('b', ['b', 'a']))
        entry, back = HeirEntry('b', slot), HeirExit('b', slot, 'a')
        self.assertEqual([entry.heir, entry.SIDE, back.above, back.SIDE], ['b', 'entry', 'a', 'exit'])

    def test_breaches(self):
        first = Method('m', (('x', 'int'),), 'int', pre=Cond.between('x', 0, 9), body=('return', ('x', 0)))
        second = Method('m', (('x', 'int'),), 'int', pre=Cond.between('x', 0, 5), body=('return', ('x', 1)))
        library = Library(ClassDef('a', methods=(first,)), ClassDef('b', ('a',), methods=(second,)))
        call = ('let', 'r', ('call', 't', 'm', (('', 7),)), ('return', ('r', 0)))
        client = ('let', 'o', ('new', 'b', ()), ('let', 't', ('as', 'o', 'a'), call))
        breach = breaches(library, client, [])[0]
        self.assertEqual([breach.kind, breach.blamed, breach.of, breach.site, breach.numbers, breach.clause],
                         ['heir', 'b', 'b', (None, None, (0, 0)), {'x': 7}, 1])

    def test_duties(self):
        first = Method('m', (('x', 'int'),), 'int', pre=Cond.between('x', 0, 9), body=('return', ('x', 0)))
        second = Method('m', (('x', 'int'),), 'int', pre=Cond.between('x', 0, 5), body=('return', ('x', 1)))
        library = Library(ClassDef('a', methods=(first,)), ClassDef('b', ('a',), methods=(second,)))
        entry, back = list(duties(library))
        self.assertEqual([entry.heir, entry.SIDE, verdict(library, entry)[0], back.above, back.SIDE, verdict(library, back)[0]],
                         ['b', 'entry', 'broken', 'a', 'exit', 'kept'])

    def test_client_without_classes(self):
        client = ('let', 'v', ('ask',), ('if', ('v', '', 4), ('halt',), ('return', ('v', 2))))
        self.assertIs(check_client(Library(), client), None)
        self.assertEqual([run(Library(), client, [5]), run(Library(), client, [4]), run(Library(), client, [])],
                         [('returned', 7), ('halted',), ('halted',)])

    def test_text(self):
        wheres = ClassDef('a', fields=('f',), where=Cond((('', 'self.f', 0),)))
        self.assertEqual(shown(Library(wheres)), 'class a\n  field f\n  where zero <= self.f + 0')

    def test_answer(self):
        its = Method('m', (('x', 'int'),), 'int', post=Cond((('x', 'result', -1),)), body=('halt',))
        self.assertEqual(answer(Library(ClassDef('c', methods=(its,))), 'c', 'm', {'x': 4}), 5)

    def test_readme(self):
        readme = pathlib.Path(__file__).parent.parent / "README.md"
        result = doctest.testfile(str(readme), module_relative=False)
        self.assertGreater(result.attempted, 5)
        self.assertEqual(result.failed, 0)


if __name__ == "__main__":
    unittest.main()
