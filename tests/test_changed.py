"""[3.4]: library.changed, and [0.3]: the library that it was asked of stays as it was."""

import unittest

from contractheirs.classes import ClassDef, Method
from contractheirs.conditions import Cond
from contractheirs.errors import BadLibrary, NoClass
from contractheirs.libraries import Library
from tests.rows import HALT, method
from tests.support import things


class Changed(unittest.TestCase):

    def setUp(self):
        self.rows = [
            ClassDef("d", ("b",), methods=(method("m", (), "int"),)), ClassDef("b", ("a",), fields=("g",)),
            ClassDef("a", fields=("f",)), ClassDef("c"),
        ]
        self.library = Library(*self.rows)

    def tearDown(self):
        self.assertEqual(self.library.names, ("a", "b", "c", "d"))
        for one in self.rows:
            self.assertIs(self.library[one.name], one)
        self.assertEqual(self.library.order_of("d"), ["d", "b", "a"])
        self.assertEqual(self.library.fields_of("d"), ["f", "g"])

    def order_of_rows(self, library):
        return [one.name for one in library.classes]

    def test_replaced(self):
        new = ClassDef("b", ("c",), fields=("h",))
        changed = self.library.changed(new)
        self.assertIs(type(changed), Library)
        self.assertEqual(changed.names, ("a", "b", "c", "d"))
        self.assertIs(changed["b"], new)
        for at in (0, 2, 3):
            self.assertIs(changed[self.rows[at].name], self.rows[at])
        self.assertEqual(changed.order_of("d"), ["d", "b", "c"])
        self.assertEqual(changed.fields_of("d"), ["h"])
        self.assertEqual(self.order_of_rows(changed), ["d", "b", "a", "c"])

    def test_added(self):
        new = ClassDef("aa", ("d", "c"))
        changed = self.library.changed(new)
        self.assertEqual(changed.names, ("a", "aa", "b", "c", "d"))
        self.assertIs(changed["aa"], new)
        self.assertEqual(changed.order_of("aa"), ["aa", "d", "b", "a", "c"])
        self.assertEqual(self.order_of_rows(changed), ["d", "b", "a", "c", "aa"])
        self.assertNotIn("aa", self.library)
        with self.assertRaises(NoClass):
            self.library.order_of("aa")

    def test_again_and_again(self):
        changed = self.library.changed(ClassDef("e")).changed(ClassDef("b")).changed(ClassDef("e", ("a",)))
        self.assertEqual(self.order_of_rows(changed), ["d", "b", "a", "c", "e"])
        self.assertEqual(changed.order_of("e"), ["e", "a"])
        self.assertEqual(Library().changed(ClassDef("a")).names, ("a",))

    def test_the_same(self):
        self.assertEqual(self.order_of_rows(self.library.changed(self.rows[1])), self.order_of_rows(self.library))

    def refused(self, at, why, thing, library=None):
        with self.assertRaises(BadLibrary) as caught:
            (library or self.library).changed(thing)
        self.assertEqual((caught.exception.at, caught.exception.why), (at, why))

    def test_no_class(self):
        for thing in things() + [[], {}, [ClassDef("b")], "b", ("b",), method("b", (), "int")]:
            if not isinstance(thing, ClassDef):
                self.refused(4, "classes", thing)
                self.refused(0, "classes", thing, Library())

    def test_no_name(self):
        for name in [None, [], {}, ("b",), "B", "int", "self", "", "abcdefghi", 5, True, ["b"], b"b", Cond()]:
            self.refused(4, "classes", ClassDef(name))

    def test_stands_in_the_class(self):
        self.assertIn("changed", vars(Library))

    def test_the_31st(self):
        names = [a + b for a in "bcdefg" for b in "bcdef"]
        library = Library(*[ClassDef(name) for name in names])
        self.refused(30, "classes", ClassDef("a"), library)
        self.assertEqual(len(library.changed(ClassDef("bb", ("bc",))).names), 30)

    def test_wrong(self):
        self.refused("b", "bases", ClassDef("b", ("zz",)))
        self.refused("b", "ring", ClassDef("b", ("d",)))
        self.refused("b", "double", ClassDef("a", fields=("g",)))
        self.refused("e", "where", ClassDef("e", where=Cond((("self.f", "", 1),))))
        self.refused("e", "order", ClassDef("e", ("a", "b")))
        self.refused(("e", "m", ()), "form", ClassDef("e", methods=(method("m", (), "int", ("halts",)),)))
        self.refused(("e", "m"), "inherited", ClassDef("e", ("d",), methods=(method("m", (), "a"),)))
        # A class that was there is asked by those that rely on it.
        self.refused(("d", "m", ()), "form", ClassDef("d", methods=(method("m", (), "int", None),)))
        made = Method("m", (("p", "a"),), "int", pre=Cond((("p.f", "", 1),)), body=HALT)
        library = Library(ClassDef("a", fields=("f",)), ClassDef("b", methods=(made,)))
        self.refused(("b", "m"), "pre", ClassDef("a"), library)


if __name__ == "__main__":
    unittest.main()
