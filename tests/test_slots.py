"""[0.3], [4.1], [4.2]: Slot, which class answers for it, and line."""

import unittest

from contractheirs.classes import ClassDef, Method
from contractheirs.errors import NoClass, NoSlot
from contractheirs.libraries import Library
from contractheirs.slots import Slot, line
from tests.support import things

ODD = [[], {}, ["call"], {"call"}, ("a",), [Slot("call", "a", "m")]]


def writing(name, bases, *methods):
    made = [Method(each, (("x", "int"),), "int", body=("return", ("x", 0))) for each in methods]
    return ClassDef(name, bases, methods=tuple(made))


def diamond():
    """d: b and c, both of a; m in a, b and c; n in a alone; k in c alone."""
    return Library(
        writing("a", (), "m", "n"), writing("b", ("a",), "m"), writing("c", ("a",), "m", "k"), writing("d", ("b", "c")),
        writing("e", ("d",), "m"), writing("other", (), "m"),
    )


class Made(unittest.TestCase):

    def test_values(self):
        for word in ("call", "next"):
            made = Slot(word, "a", "m")
            self.assertEqual(vars(made), {"word": word, "owner": "a", "method": "m"})

    def test_made_of_anything_but_the_word(self):
        for thing in things() + ODD:
            made = Slot("call", thing, "m")
            self.assertIs(made.owner, thing)
            made = Slot("next", "a", thing)
            self.assertIs(made.method, thing)

    def test_other_words(self):
        words = ["", "Call", "NEXT", "calls", "cal", "new", "return", "call ", " next", b"call", ("call",), ["next"]]
        for word in words + things() + ODD:
            with self.assertRaises(NoSlot) as caught:
                Slot(word, "a", ["m"])
            found = caught.exception.slot
            self.assertIs(type(found), tuple)
            self.assertEqual(len(found), 3)
            self.assertIs(found[0], word)
            self.assertEqual(found[1:], ("a", ["m"]))

    def test_exactly_three(self):
        for many in (2, 4):
            with self.assertRaises(TypeError):
                Slot(*["call"] * many)

    def test_equal(self):
        self.assertTrue(Slot("call", "a", "m") == Slot("call", "a", "m"))
        self.assertFalse(Slot("call", "a", "m") != Slot("call", "a", "m"))
        self.assertTrue(Slot("next", ["a"], {}) == Slot("next", ["a"], {}))
        for other in [Slot("next", "a", "m"), Slot("call", "b", "m"), Slot("call", "a", "n"), Slot("call", "m", "a")]:
            self.assertFalse(Slot("call", "a", "m") == other)
            self.assertFalse(other == Slot("call", "a", "m"))
            self.assertTrue(Slot("call", "a", "m") != other)

    def test_equals_nothing_of_another_class(self):
        made = Slot("call", "b", "m")
        for other in things() + [("call", "b", "m"), ["call", "b", "m"], "call", Method("b", "m", "call", body=None)]:
            self.assertFalse(made == other)
            self.assertFalse(other == made)
            self.assertTrue(made != other)

    def test_methods_stand_in_the_class(self):
        self.assertLessEqual({"__init__", "__call__", "__eq__"}, set(vars(Slot)))
        self.assertEqual(Slot.__module__, "contractheirs.slots")
        self.assertEqual(line.__module__, "contractheirs.slots")


class Answers(unittest.TestCase):

    def answered(self, word, owner, method, **answers):
        library = diamond()
        slot = Slot(word, owner, method)
        for name in library.names:
            if name in answers:
                self.assertEqual(slot(library, name), answers[name], (owner, method, name))
            else:
                with self.assertRaises(NoSlot) as caught:
                    slot(library, name)
                self.assertIs(caught.exception.slot, slot)
                with self.assertRaises(NoSlot) as caught:
                    line(library, slot, name)
                self.assertIs(caught.exception.slot, slot)

    def test_call(self):
        self.answered("call", "a", "m", a="a", b="b", c="c", d="b", e="e")
        self.answered("call", "b", "m", b="b", d="b", e="e")
        self.answered("call", "c", "m", c="c", d="b", e="e")
        self.answered("call", "d", "m", d="b", e="e")
        self.answered("call", "e", "m", e="e")
        self.answered("call", "other", "m", other="other")
        self.answered("call", "a", "n", a="a", b="a", c="a", d="a", e="a")
        self.answered("call", "d", "n", d="a", e="a")
        self.answered("call", "c", "k", c="c", d="c", e="c")
        self.answered("call", "d", "k", d="c", e="c")

    def test_next(self):
        # For d the next one behind b is c; in the order of b itself it is a.
        self.answered("next", "b", "m", b="a", d="c", e="c")
        self.answered("next", "c", "m", c="a", d="a", e="a")
        self.answered("next", "e", "m", e="b")

    def test_slots_that_are_none(self):
        self.answered("call", "a", "k")
        self.answered("call", "b", "k")
        self.answered("call", "other", "n")
        self.answered("call", "a", "zz")
        self.answered("call", "zz", "m")
        # The last one that writes it has none behind it; d and b write none of these.
        for owner, method in [("a", "m"), ("a", "n"), ("d", "m"), ("b", "n"), ("c", "k"), ("d", "k"), ("other", "m"),
                              ("zz", "m"), ("e", "n")]:
            self.answered("next", owner, method)

    def test_next_behind_others_that_do_not_write_it(self):
        library = Library(
            writing("a", (), "m"), writing("b", ("a",)), writing("c", ("b",), "m"), writing("d", ("c",)),
            writing("e", ("d",), "m"),
        )
        self.assertEqual(Slot("next", "e", "m")(library, "e"), "c")
        self.assertEqual(Slot("next", "c", "m")(library, "d"), "a")
        self.assertEqual(Slot("next", "c", "m")(library, "e"), "a")

    def test_owner_and_method_of_anything(self):
        library = diamond()
        for thing in things() + ODD:
            for slot in (Slot("call", thing, "m"), Slot("next", thing, "m"), Slot("call", "a", thing),
                         Slot("next", "b", thing), Slot("call", thing, thing)):
                for name in ("a", "d", "zz", None, []):
                    with self.assertRaises(NoSlot) as caught:
                        slot(library, name)
                    self.assertIs(caught.exception.slot, slot)
                    with self.assertRaises(NoSlot) as caught:
                        line(library, slot, name)
                    self.assertIs(caught.exception.slot, slot)

    def test_no_class(self):
        library = diamond()
        for thing in things() + ODD + ["zz", "A", "a ", b"a"]:
            for slot in (Slot("call", "a", "m"), Slot("next", "b", "m")):
                with self.assertRaises(NoClass) as caught:
                    slot(library, thing)
                self.assertIs(caught.exception.name, thing)
                with self.assertRaises(NoClass) as caught:
                    line(library, slot, thing)
                self.assertIs(caught.exception.name, thing)

    def test_another_library(self):
        slot = Slot("call", "a", "m")
        with self.assertRaises(NoSlot):
            slot(Library(), "a")
        self.assertEqual(slot(Library(writing("a", (), "m")), "a"), "a")


class Lines(unittest.TestCase):

    def test_call(self):
        library = diamond()
        slot = Slot("call", "a", "m")
        self.assertEqual(line(library, slot, "a"), ["a"])
        self.assertEqual(line(library, slot, "b"), ["b", "a"])
        self.assertEqual(line(library, slot, "d"), ["d", "b", "c", "a"])
        self.assertEqual(line(library, slot, "e"), ["e", "d", "b", "c", "a"])
        self.assertEqual(line(library, Slot("call", "c", "m"), "e"), ["e", "d", "c"])
        self.assertEqual(line(library, Slot("call", "b", "m"), "e"), ["e", "d", "b"])
        self.assertEqual(line(library, Slot("call", "d", "n"), "d"), ["d"])

    def test_next(self):
        library = diamond()
        self.assertEqual(line(library, Slot("next", "b", "m"), "e"), ["e", "d", "b"])
        self.assertEqual(line(library, Slot("next", "c", "m"), "d"), ["d", "c"])
        self.assertEqual(line(library, Slot("next", "e", "m"), "e"), ["e"])

    def test_classes_beside_the_owner_are_left_out(self):
        library = Library(
            writing("a", (), "m"), writing("b", (), "n"), writing("c", ("a", "b")), writing("d", ("b",)),
            writing("e", ("c", "d")),
        )
        self.assertEqual(library.order_of("e"), ["e", "c", "a", "d", "b"])
        self.assertEqual(line(library, Slot("call", "a", "m"), "e"), ["e", "c", "a"])
        self.assertEqual(line(library, Slot("call", "b", "n"), "e"), ["e", "c", "d", "b"])

    def test_a_new_list(self):
        library = diamond()
        slot = Slot("call", "a", "m")
        found = line(library, slot, "d")
        self.assertIs(type(found), list)
        found.clear()
        self.assertEqual(line(library, slot, "d"), ["d", "b", "c", "a"])

    def test_things_that_are_no_slots(self):
        library = diamond()
        for thing in things() + ODD + [("call", "a", "m"), "call"]:
            if isinstance(thing, Slot):
                continue
            for name in ("a", "zz", None, []):
                with self.assertRaises(NoSlot) as caught:
                    line(library, thing, name)
                self.assertIs(caught.exception.slot, thing)


if __name__ == "__main__":
    unittest.main()
