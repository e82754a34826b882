"""[6.6]: at_fault: breaches of runs of each kind, the same with one part otherwise, and anything else."""

import random
import unittest

from contractheirs.classes import ClassDef, Method
from contractheirs.conditions import Cond
from contractheirs.errors import BadBody, BadCond, BadLibrary, Breach, TooDeep, TooLong
from contractheirs.faults import at_fault
from contractheirs.libraries import Library
from contractheirs.runs import breaches
from contractheirs.slots import Slot
from tests import randoms
from tests.rows import BACK, asking, call, following, least, let, most, new, writing
from tests.support import GREAT, things

PARTS = ["kind", "blamed", "side", "of", "slot", "site", "numbers", "clause", "earlier"]


def with_part(breach, **parts):
    """A breach like another one, but for some parts."""
    return Breach(*[parts.get(key, getattr(breach, key)) for key in PARTS])


def without(numbers, term):
    return {key: number for key, number in numbers.items() if key != term}


class Anything(unittest.TestCase):

    def test_no_breach(self):
        library = Library(writing("a"))
        for thing in things() + [[], {}, Breach, BadCond(1), ("call", None, "entry"), {"kind": "call"}]:
            self.assertIs(at_fault(library, thing), False)
            self.assertIs(at_fault(Library(), thing), False)

    def test_breaches_of_anything(self):
        library = Library(writing("a"))
        for thing in things() + [[], {}, {"a": 1}]:
            self.assertIs(at_fault(library, Breach(*[thing] * 9)), False)
            for kind in ("call", "new", "body", "heir"):
                self.assertIs(at_fault(library, Breach(kind, *[thing] * 8)), False)
                for side in ("entry", "exit"):
                    self.assertIs(at_fault(library, Breach(kind, thing, side, "a", thing, (thing,) * 3, {}, 0, None)), False)


class Kinds(unittest.TestCase):
    """A breach of a run is shown; with one part otherwise it is not."""

    def found(self, library, client, kind, side, tape=()):
        row = breaches(library, client, tape)
        self.assertEqual(len(row), 1)
        self.assertEqual((row[0].kind, row[0].side), (kind, side))
        self.assertIs(at_fault(library, row[0]), True)
        return row[0]

    def each_part(self, library, breach, asked, **others):
        """Things of all kinds at each part are no proof, and neither are others, which are lists."""
        for key in PARTS[:-1]:
            for thing in things() + [[], {}, {"a"}] + others.get(key, []):
                if key == "numbers" and isinstance(thing, dict) and thing == breach.numbers:
                    continue
                if key in ("slot", "blamed") and thing == getattr(breach, key):
                    continue
                if key == "clause" and type(thing) is int and thing == breach.clause:
                    continue
                self.assertIs(at_fault(library, with_part(breach, **{key: thing})), False, (key, thing))
        for kind in ("call", "new", "body", "heir"):
            for side in ("entry", "exit"):
                wanted = (kind, side) == (breach.kind, breach.side)
                self.assertIs(at_fault(library, with_part(breach, kind=kind, side=side)), wanted)
        self.sites(library, breach)
        self.terms(library, breach, asked)
        # Who was current means nothing.
        for thing in things():
            self.assertIs(at_fault(library, with_part(breach, earlier=thing)), True)
        for number in (-1, breach.clause + 1, breach.clause - 1, GREAT, True, False, str(breach.clause), (breach.clause,)):
            self.assertIs(at_fault(library, with_part(breach, clause=number)), False)

    def sites(self, library, breach):
        site = breach.site
        for wrong in [site[:2], site + (1,), list(site), (), [], site[:1], "abc", None, {0: 1}]:
            self.assertIs(at_fault(library, with_part(breach, site=wrong)), False)

    def terms(self, library, breach, asked):
        """The terms that are asked have to be there, with integers; others mean nothing."""
        numbers = breach.numbers
        for term in asked:
            self.assertIs(at_fault(library, with_part(breach, numbers=without(numbers, term))), False, term)
            for thing in [None, True, False, "1", [], 2j, (1,), {}]:
                self.assertIs(at_fault(library, with_part(breach, numbers={**numbers, term: thing})), False, term)
        for term in set(numbers) - set(asked):
            self.assertIs(at_fault(library, with_part(breach, numbers=without(numbers, term))), True, term)
        odd = {"zz": None, "": 5, None: 1, 5: "x", ("x",): [], "self.zz": True}
        for term in set(numbers) - set(asked):
            odd[term] = []
        self.assertIs(at_fault(library, with_part(breach, numbers={**numbers, **odd})), True)

    def test_call(self):
        library = Library(
            writing("a", pre=Cond((("", "", 0),), most("x", 5), least("self.f", 0)), fields=("f",)),
            ClassDef("b", ("a",), fields=("g",)), writing("k"),
        )
        client = let("o", new("b", ("", 1), ("", 2)), let("t", ("as", "o", "a"), let("r", call("t", "m", ("", 6)), BACK)))
        breach = self.found(library, client, "call", "entry")
        self.each_part(library, breach, ["x", "self.f"], blamed=["a", "b", "k", 0], of=["b", "k", "zz"],
                       slot=[Slot("next", "a", "m"), Slot("call", "k", "m"), Slot("call", "b", "m"), Slot("call", "a", "n"), None])
        # Only this precondition is asked, and the site may be anywhere.
        for site in [("zz", "m", ()), (None, [], {}), (5, 5, 5)]:
            self.assertIs(at_fault(library, with_part(breach, site=site, blamed=site[0])), True)
            self.assertIs(at_fault(library, with_part(breach, site=site, blamed="other")), False)
        self.assertIs(at_fault(library, with_part(breach, numbers={"x": 5, "self.f": 1})), False)
        self.assertIs(at_fault(library, with_part(breach, numbers={"x": 5, "self.f": -1})), False)
        self.assertIs(at_fault(library, with_part(breach, numbers={"x": 5, "self.f": -1}, clause=2)), True)
        self.assertIs(at_fault(library, with_part(breach, numbers={"x": 6, "self.f": -1}, clause=2)), False)

    def test_call_at_next(self):
        library = Library(
            writing("a", pre=Cond(most("x", 5))), writing("b", ("a",), body=let("r", following(("x", 0)), BACK)),
        )
        breach = self.found(library, asking("b", "b", 6), "call", "entry")
        self.each_part(library, breach, ["x"], blamed=["a", None], of=["a"],
                       slot=[Slot("next", "a", "m"), Slot("call", "b", "m"), Slot("call", "a", "m")])

    def test_new(self):
        library = Library(
            ClassDef("a", fields=("f",), where=Cond(least("self.f", 0))),
            ClassDef("b", ("a",), fields=("g",), where=Cond((("self.g", "self.f", 0),))), ClassDef("c"),
        )
        breach = self.found(library, let("o", new("b", ("", 3), ("", 4)), BACK), "new", "entry")
        self.assertEqual(breach.clause, 1)
        self.each_part(library, breach, ["self.f", "self.g"], blamed=["a", "b"], of=["a", "c", "zz"],
                       slot=[Slot("call", "a", "m"), Slot("next", "b", "m")])
        self.assertIs(at_fault(library, with_part(breach, numbers={"self.f": -1, "self.g": 4})), False)
        self.assertIs(at_fault(library, with_part(breach, numbers={"self.f": -1, "self.g": 4}, clause=0)), True)
        self.assertIs(at_fault(library, with_part(breach, site=("c", 5, 5), blamed="c")), True)

    def test_body(self):
        post = Cond(least("result", 0), (("result", "self.f", 0),))
        library = Library(
            writing("a", pre=Cond(most("x", 9)), post=post, body=("return", ("x", 0)), fields=("f",)),
            ClassDef("b", ("a",), fields=("g",)), writing("c", pre=Cond(most("x", 9)), post=post, fields=("f",)),
        )
        client = let("o", new("b", ("", 1), ("", 2)), let("r", call("o", "m", ("", 6)), BACK))
        breach = self.found(library, client, "body", "exit")
        self.each_part(library, breach, ["x", "self.f", "result"], blamed=["b", "c", None], of=["b", "c"],
                       slot=[Slot("call", "a", "m"), Slot("call", "b", "m")])
        for site in [("b", "m", ()), ("a", "n", ()), ("a", None, ()), ("a", [], ()), (None, "m", ()), ("zz", "m", ())]:
            self.assertIs(at_fault(library, with_part(breach, site=site)), False)
            self.assertIs(at_fault(library, with_part(breach, site=site, blamed=site[0], of=site[0])), False)
        self.assertIs(at_fault(library, with_part(breach, site=("a", "m", None))), True)
        # What was owed ahead has to hold.
        self.assertIs(at_fault(library, with_part(breach, numbers={**breach.numbers, "x": 10})), False)
        self.assertIs(at_fault(library, with_part(breach, numbers={**breach.numbers, "x": 9})), True)
        self.assertIs(at_fault(library, with_part(breach, numbers={**breach.numbers, "result": -1})), False)
        self.assertIs(at_fault(library, with_part(breach, numbers={**breach.numbers, "result": 1})), False)

    def test_heir_at_entry(self):
        library = Library(
            writing("a", pre=Cond(most("x", 9), most("self.f", 5)), fields=("f",)),
            writing("b", ("a",), pre=Cond(least("x", 0), most("x", 8))),
            writing("c", ("b",), pre=Cond(most("x", 5), most("self.f", 7))),
        )
        client = let("o", new("c", ("", 1)), let("t", ("as", "o", "a"), let("r", call("t", "m", ("", 6)), BACK)))
        breach = self.found(library, client, "heir", "entry")
        self.assertEqual(breach.of, "c")
        self.each_part(library, breach, ["x", "self.f"], blamed=["a", "b", None], of=["a", "b"],
                       slot=[Slot("call", "c", "m"), Slot("next", "c", "m"), Slot("next", "b", "m"), Slot("call", "a", "n")])
        below = Slot("call", "b", "m")
        self.assertIs(at_fault(library, with_part(breach, slot=below)), True)
        # The other classes of the line are asked, too.
        for number, wanted in [(5, False), (6, True), (8, True), (9, False), (10, False), (-1, False)]:
            self.assertIs(at_fault(library, with_part(breach, numbers={"x": number, "self.f": 1})), wanted)
        numbers = {"x": 6, "self.f": 6}
        self.assertIs(at_fault(library, with_part(breach, numbers=numbers)), False)
        self.assertIs(at_fault(library, with_part(breach, numbers=numbers, slot=below)), True)
        # The owner is no heir of itself.
        numbers = {"x": 10, "self.f": 1}
        self.assertIs(at_fault(library, with_part(breach, of="a", blamed="a", numbers=numbers)), False)
        self.assertIs(at_fault(library, with_part(breach, of="b", blamed="b", numbers={"x": -1, "self.f": 1})), True)
        self.assertIs(at_fault(library, with_part(breach, of="b", blamed="b", numbers={"x": -1, "self.f": 6})), False)
        self.assertIs(at_fault(library, with_part(breach, of="b", blamed="b", slot=below, numbers={"x": -1})), False)

    def test_heir_at_exit(self):
        library = Library(
            writing("a", pre=Cond(most("x", 9)), post=Cond(most("result", 5))),
            writing("b", ("a",), pre=Cond(most("x", 8)), post=Cond(most("result", 7))),
            writing("c", ("b",), post=Cond(most("result", 9), (("result", "x", 0),)), body=("return", ("x", 0))),
        )
        breach = self.found(library, asking("c", "a", 8), "heir", "exit")
        self.assertEqual((breach.of, breach.blamed), ("b", "c"))
        self.each_part(library, breach, ["x", "result"], blamed=["a", "b", None], of=["a", "c"],
                       slot=[Slot("call", "c", "m"), Slot("next", "c", "m"), Slot("call", "a", "n"), Slot("next", "b", "m")])
        self.assertIs(at_fault(library, with_part(breach, slot=Slot("call", "b", "m"))), True)
        for x, result, wanted in [(8, 7, False), (8, 8, True), (9, 8, False), (8, 9, False), (8, 10, False), (7, 8, False)]:
            self.assertIs(at_fault(library, with_part(breach, numbers={"x": x, "result": result})), wanted)
        # For a it is b who would be to blame, and what b owes above it has to hold.
        blame = with_part(breach, of="a", blamed="b", numbers={"x": 8, "result": 6})
        self.assertIs(at_fault(library, blame), True)
        self.assertIs(at_fault(library, with_part(blame, blamed="c")), False)
        self.assertIs(at_fault(library, with_part(blame, numbers={"x": 8, "result": 8})), False)
        # c is behind nobody in the line of b: what it would ask does not matter.
        self.assertIs(at_fault(library, with_part(blame, numbers={"x": 5, "result": 6})), True)

    def test_what_stands_behind_is_not_asked(self):
        library = Library(
            writing("a", post=Cond(most("self.f", 5)), fields=("f",)), writing("b", ("a",), post=Cond(most("result", 5))),
            writing("c", ("b",), body=("return", ("x", 0))),
        )
        client = let("o", new("c", ("", 9)), let("t", ("as", "o", "a"), let("r", call("t", "m", ("", 6)), BACK)))
        breach = self.found(library, client, "heir", "exit")
        self.assertEqual(breach.of, "b")
        self.each_part(library, breach, ["result"])

    def test_at_exit_of_next(self):
        body = let("r", following(("x", 0)), ("return", ("r", 0)))
        library = Library(
            writing("a", post=Cond(most("result", 5)), body=("return", ("", 5))), writing("b", ("a",), body=body),
            writing("c", ("a",), body=("return", ("", 7))), ClassDef("d", ("b", "c")),
        )
        breach = self.found(library, asking("d", "b", 0), "heir", "exit")
        self.assertEqual((breach.of, breach.slot), ("b", Slot("next", "b", "m")))
        self.each_part(library, breach, ["result"], blamed=["a", "b", "c"], of=["a", "c", "d"],
                       slot=[Slot("next", "c", "m"), Slot("next", "d", "m")])


class Random(unittest.TestCase):

    def test_breaches_of_runs(self):
        many = {}
        for seed in range(500):
            rng = random.Random(seed)
            try:
                library = randoms.library(rng, dense=seed % 2 == 0)
            except BadLibrary:
                continue
            for _ in range(6):
                try:
                    found = breaches(library, randoms.client(rng, library), randoms.tape(rng))
                except (BadBody, TooLong, TooDeep):
                    continue
                for breach in found:
                    self.assertIs(at_fault(library, breach), True)
                    for clause in (breach.clause - 1, breach.clause + 1):
                        self.assertIs(at_fault(library, with_part(breach, clause=clause)), False)
                    many[breach.kind] = many.get(breach.kind, 0) + 1
        self.assertEqual(sorted(many), ["body", "call", "heir", "new"])


if __name__ == "__main__":
    unittest.main()
