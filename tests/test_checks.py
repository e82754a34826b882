"""[0.3], [4.3]: the classes of checks."""

import unittest

from contractheirs import checks
from contractheirs.checks import (
    AtEntry, AtExit, BodyCheck, CallCheck, Check, HeirEntry, HeirExit, NewCheck, OnLine, OnSite,
)
from contractheirs.slots import Slot
from tests.support import things

SITE = ("a", "m", (0, 1))
SLOT = Slot("call", "a", "m")

VALUES = {
    CallCheck: {"site": SITE},
    NewCheck: {"site": SITE},
    BodyCheck: {"site": SITE},
    HeirEntry: {"heir": "b", "slot": SLOT},
    HeirExit: {"heir": "b", "slot": SLOT, "above": "a"},
}
ABOVE = {
    CallCheck: (Check, OnSite, AtEntry),
    NewCheck: (Check, OnSite, AtEntry),
    BodyCheck: (Check, OnSite, AtExit),
    HeirEntry: (Check, OnLine, AtEntry),
    HeirExit: (Check, OnLine, AtExit),
}
ALL = (Check, OnSite, OnLine, AtEntry, AtExit, *VALUES)


class Checks(unittest.TestCase):

    def test_values(self):
        for kind, values in VALUES.items():
            made = kind(*values.values())
            self.assertEqual(list(vars(made)), list(values))
            for key, value in values.items():
                self.assertIs(getattr(made, key), value)

    def test_exactly_these_values(self):
        for kind, values in VALUES.items():
            for many in (len(values) - 1, len(values) + 1):
                with self.assertRaises(TypeError):
                    kind(*range(many))

    def test_made_of_anything(self):
        for thing in things() + [[], {}, {1}, [SITE]]:
            for kind, values in VALUES.items():
                for key in values:
                    made = kind(*{**values, key: thing}.values())
                    self.assertIs(getattr(made, key), thing)
                made = kind(*[thing for _ in values])
                self.assertTrue(made == kind(*[thing for _ in values]))

    def test_sides(self):
        self.assertEqual((AtEntry.SIDE, AtExit.SIDE), ("entry", "exit"))
        sides = {CallCheck: "entry", NewCheck: "entry", BodyCheck: "exit", HeirEntry: "entry", HeirExit: "exit"}
        for kind, values in VALUES.items():
            self.assertEqual(kind.SIDE, sides[kind])
            self.assertEqual(kind(*values.values()).SIDE, sides[kind])
        for kind in (Check, OnSite, OnLine):
            self.assertFalse(hasattr(kind, "SIDE"))

    def test_what_is_below_what(self):
        for kind, values in VALUES.items():
            made = kind(*values.values())
            for other in ALL:
                self.assertEqual(isinstance(made, other), other in ABOVE[kind] or other == kind, (kind, other))
                self.assertEqual(issubclass(kind, other), other in ABOVE[kind] or other == kind)
        for kind in (OnSite, OnLine, AtEntry, AtExit):
            self.assertTrue(issubclass(kind, Check))
            self.assertEqual([other for other in ALL if issubclass(kind, other)], [Check, kind])

    def test_equal(self):
        for kind, values in VALUES.items():
            made = kind(*values.values())
            same = kind(*[tuple(value) if isinstance(value, tuple) else value for value in values.values()])
            self.assertTrue(made == same)
            self.assertFalse(made != same)
        self.assertTrue(HeirEntry("b", Slot("call", "a", "m")) == HeirEntry("b", SLOT))
        self.assertTrue(HeirExit("b", Slot("call", "a", "m"), "a") == HeirExit("b", SLOT, "a"))
        self.assertTrue(CallCheck([1, {}]) == CallCheck([1, {}]))

    def test_unequal_in_each_value(self):
        changes = {"site": ("a", "m", (0, 0)), "heir": "c", "slot": Slot("next", "a", "m"), "above": "c"}
        for kind, values in VALUES.items():
            made = kind(*values.values())
            for key in values:
                other = kind(*{**values, key: changes[key]}.values())
                self.assertFalse(made == other, (kind, key))
                self.assertFalse(other == made, (kind, key))
                self.assertTrue(made != other, (kind, key))

    def test_unequal_between_classes(self):
        made = [kind(*[SITE for _ in values]) for kind, values in VALUES.items()]
        for at, one in enumerate(made):
            for to, other in enumerate(made):
                self.assertEqual(one == other, at == to)
                self.assertEqual(one != other, at != to)

    def test_equals_nothing_else(self):
        for kind, values in VALUES.items():
            made = kind(*values.values())
            row = list(values.values())
            for other in things() + [row, tuple(row), values, SITE, SLOT, (kind.__name__, *row), [made], (made,), kind]:
                self.assertFalse(made == other)
                self.assertFalse(other == made)
                self.assertTrue(made != other)

    def test_looked_for_in_lists(self):
        self.assertIn(CallCheck(SITE), [None, NewCheck(SITE), CallCheck(("a", "m", (0, 1)))])
        self.assertNotIn(CallCheck(SITE), [None, NewCheck(SITE), BodyCheck(SITE), SITE])

    def test_where_they_stand(self):
        for kind in VALUES:
            self.assertLessEqual({"__init__", "__eq__"}, set(vars(kind)))
        for kind in ALL:
            self.assertEqual(kind.__module__, "contractheirs.checks")
            self.assertIs(getattr(checks, kind.__name__), kind)


if __name__ == "__main__":
    unittest.main()
