"""[7.4]: admitted and touched."""

import random
import unittest

from contractheirs.checks import HeirEntry, HeirExit
from contractheirs.classes import ClassDef, Method
from contractheirs.conditions import Cond
from contractheirs.duties import admitted, duties, duty_claims, duty_facts, touched, verdict
from contractheirs.errors import BadLibrary, NoClass, NoMethod, Unkept
from contractheirs.libraries import Library
from contractheirs.slots import Slot
from tests import randoms
from tests.rows import HALT, NEVER, least, method, most, writing
from tests.support import things


class Admitted(unittest.TestCase):

    def setUp(self):
        self.library = Library(
            writing("b", pre=Cond(most("x", 9)), post=Cond(most("result", 9))), ClassDef("c"),
            ClassDef("a", ("b",)),
        )

    def tearDown(self):
        self.assertEqual(self.library.names, ("a", "b", "c"))

    def test_admitted(self):
        new = writing("e", ("a", "c"), pre=Cond(most("x", 10)), post=Cond(most("result", 8)))
        found = admitted(self.library, new)
        self.assertIs(type(found), Library)
        self.assertEqual(found.names, ("a", "b", "c", "e"))
        self.assertEqual([one.name for one in found.classes], ["b", "c", "a", "e"])
        self.assertIs(found["e"], new)
        self.assertIs(found["b"], self.library["b"])
        self.assertEqual(admitted(Library(), ClassDef("a")).names, ("a",))

    def test_by_one_number(self):
        slot = Slot("call", "a", "m")
        for pre, post, broken in [(9, 9, None), (8, 9, HeirEntry("e", slot)), (9, 10, HeirExit("e", slot, "a")),
                                  (8, 10, HeirEntry("e", slot))]:
            new = writing("e", ("a",), pre=Cond(most("x", pre)), post=Cond(most("result", post)))
            if broken is None:
                admitted(self.library, new)
                continue
            with self.assertRaises(Unkept) as caught:
                admitted(self.library, new)
            self.assertEqual(caught.exception.duty, broken)
            self.assertIs(type(caught.exception.duty), type(broken))

    def test_the_first_duty_that_is_broken(self):
        def two(name, bases, first, second):
            return ClassDef(name, bases, methods=(
                Method("n", (("x", "int"),), "int", pre=Cond(most("x", first)), body=HALT),
                Method("m", (("x", "int"),), "int", pre=Cond(most("x", second)), body=HALT),
            ))
        library = Library(two("z", (), 5, 5), two("y", ("z",), 5, 5))
        for first, second, owner, name in [(4, 5, "y", "n"), (5, 4, "y", "m"), (4, 4, "y", "m")]:
            with self.assertRaises(Unkept) as caught:
                admitted(library, two("a", ("y",), first, second))
            self.assertEqual(caught.exception.duty, HeirEntry("a", Slot("call", owner, name)))

    def test_only_its_own_duties(self):
        library = self.library.changed(writing("d", ("b",), pre=Cond(NEVER)))
        self.assertEqual(admitted(library, ClassDef("e", ("b",))).names, ("a", "b", "c", "d", "e"))

    def refused(self, at, why, thing):
        with self.assertRaises(BadLibrary) as caught:
            admitted(self.library, thing)
        self.assertEqual((caught.exception.at, caught.exception.why), (at, why))

    def test_a_name_that_is_there(self):
        self.refused(3, "classes", ClassDef("c"))
        self.refused(3, "classes", self.library["b"])
        # Whatever else is wrong with it.
        self.refused(3, "classes", ClassDef("c", ("zz",)))
        self.refused(3, "classes", ClassDef("a", ("a",), methods=None))

    def test_anything(self):
        for thing in things() + [[], {}, [ClassDef("e")], "e", ("e",)]:
            if not isinstance(thing, ClassDef):
                self.refused(3, "classes", thing)
        for name in [None, [], {}, 5, True, "E", "int", ""]:
            self.refused(3, "classes", ClassDef(name))

    def test_bad_ahead_of_unkept(self):
        self.refused("e", "bases", ClassDef("e", ("zz",)))
        self.refused("e", "ring", ClassDef("e", ("e",)))
        self.refused(("e", "m", ()), "form", writing("e", ("a",), pre=Cond(NEVER), body=None))
        self.refused(("e", "m"), "inherited", ClassDef("e", ("a",), methods=(method("m", (), "int"),)))

    def test_the_31st(self):
        names = [a + b for a in "bcdefg" for b in "bcdef"]
        with self.assertRaises(BadLibrary) as caught:
            admitted(Library(*[ClassDef(name) for name in names]), ClassDef("a"))
        self.assertEqual((caught.exception.at, caught.exception.why), (30, "classes"))

    def test_random(self):
        many = {True: 0, False: 0}
        for seed in range(150):
            library = randoms.library(random.Random(seed), bodies=False, dense=seed % 2 == 0)
            last = [name for name in library.names if not any(name in one.bases for one in library.classes)][0]
            rest = [one for one in library.classes if one.name != last]
            try:
                smaller = Library(*rest)
            except BadLibrary:
                continue
            larger = Library(*rest, library[last])
            broken = [duty for duty in duties(larger) if duty.heir == last and verdict(larger, duty)[0] == "broken"]
            many[not broken] += 1
            if broken:
                with self.assertRaises(Unkept) as caught:
                    admitted(smaller, library[last])
                self.assertEqual(caught.exception.duty, broken[0])
            else:
                self.assertEqual(admitted(smaller, library[last]).classes, larger.classes)
        self.assertGreater(min(many.values()), 5)


class Touched(unittest.TestCase):

    def told(self, library, name, method="m"):
        rows = []
        for duty in touched(library, name, method):
            above = (duty.above,) if isinstance(duty, HeirExit) else ()
            rows.append((type(duty).__name__[4:], duty.heir, duty.slot.word + " " + duty.slot.owner) + above)
        return rows

    def test_a_chain(self):
        library = Library(writing("a"), writing("b", ("a",)), ClassDef("c", ("b",)), writing("d"))
        self.assertEqual(self.told(library, "a"), [
            ("Entry", "b", "call a"), ("Exit", "b", "call a", "a"), ("Entry", "c", "call a"), ("Exit", "c", "call a", "b"),
            ("Entry", "c", "next b"), ("Exit", "c", "next b", "b"),
        ])
        self.assertEqual(self.told(library, "b"), [
            ("Entry", "b", "call a"), ("Exit", "b", "call a", "a"), ("Entry", "c", "call a"), ("Exit", "c", "call a", "b"),
            ("Entry", "c", "call b"), ("Exit", "c", "call b", "b"), ("Entry", "c", "next b"), ("Exit", "c", "next b", "b"),
        ])
        self.assertEqual(self.told(library, "d"), [])

    def test_by_the_way_alone(self):
        # e comes to the next of c by way of b, d and e.
        bases = {"a": (), "b": ("a",), "c": ("a",), "d": ("b", "c"), "e": ("d",)}
        library = Library(*[writing(name, bases[name]) for name in "abcde"])
        at_next = [("Entry", "e", "next c"), ("Exit", "e", "next c", "d")]
        for name in "abcde":
            self.assertEqual([row for row in self.told(library, name) if row[1:3] == ("e", "next c")], at_next)
        rows = [row[1:3] for row in self.told(library, "c")]
        self.assertNotIn(("b", "call a"), rows)
        self.assertIn(("d", "next b"), rows)
        # At the next of d neither c nor a is asked; at that of b both are.
        self.assertEqual([row for row in self.told(library, "c") if row[1:3] == ("e", "next d")], [])
        self.assertEqual([row for row in self.told(library, "a") if row[1:3] == ("e", "next d")], [])
        self.assertIn(("Entry", "e", "next b"), self.told(library, "a"))

    def test_no_way(self):
        library = Library(writing("b"), writing("a"), writing("c", ("a",)), ClassDef("d", ("b", "c")))
        self.assertNotIn(("Entry", "d", "next c"), self.told(library, "b"))
        self.assertNotIn(("Entry", "d", "next c"), self.told(library, "c"))
        self.assertIn(("Entry", "d", "next c"), self.told(library, "a"))

    def test_by_marks(self):
        # A class touches what has its marks: clauses that no other one writes.
        many = 0
        for seed in range(60):
            plain = randoms.library(random.Random(seed), most=6, bodies=False, dense=seed % 2 == 0)
            marks = {}
            rows = []
            for one in plain.classes:
                methods = []
                for each in one.methods:
                    number = 1000 + 2 * len(marks)
                    marks[one.name, each.name] = ((("", "", number),), (("", "", number + 1),))
                    pre, post = [Cond(mark) for mark in marks[one.name, each.name]]
                    methods.append(Method(each.name, each.params, each.result, pre=pre, post=post, body=HALT))
                rows.append(ClassDef(one.name, one.bases, fields=one.fields, methods=tuple(methods)))
            library = Library(*rows)
            for (name, each), mark in marks.items():
                wanted = [duty for duty in duties(library)
                          if set(mark) & set(duty_facts(library, duty) + duty_claims(library, duty))]
                self.assertEqual(touched(library, name, each), wanted)
                # Without clauses it touches the same.
                self.assertEqual(touched(plain, name, each), wanted)
                many += len(wanted)
        self.assertGreater(many, 500)

    def test_refused(self):
        library = Library(writing("a"), ClassDef("b", ("a",)))
        for thing in things() + [[], {}, "zz"]:
            with self.assertRaises(NoClass) as caught:
                touched(library, thing, [])
            self.assertIs(caught.exception.name, thing)
            for name in ("a", "b"):
                with self.assertRaises(NoMethod) as caught:
                    touched(library, name, thing)
                self.assertIs(caught.exception.method, thing)
        with self.assertRaises(NoMethod):
            touched(library, "b", "m")

    def test_a_new_list(self):
        library = Library(writing("a"), ClassDef("b", ("a",)))
        found = touched(library, "a", "m")
        self.assertIs(type(found), list)
        found.clear()
        self.assertEqual(len(touched(library, "a", "m")), 2)


if __name__ == "__main__":
    unittest.main()
