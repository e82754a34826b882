"""[8.3]: claims, can_fail and closed_ways; tests/test_ways.py has what they refuse."""

import random
import unittest

from contractheirs.bodies import sites
from contractheirs.cases import closes, negated
from contractheirs.classes import ClassDef, Method
from contractheirs.conditions import Cond
from contractheirs.errors import BadLibrary
from contractheirs.libraries import Library
from contractheirs.ways import can_fail, claims, closed_ways, ways
from tests import randoms
from tests.rows import ASK, BACK, HALT, NEVER, X, attempt, call, following, least, let, most, new, when, writing
from tests.support import GREAT, hold, terms_of
from tests.test_ways import library


class Claims(unittest.TestCase):

    def told(self, place, body, wanted, **more):
        found = claims(library(body, **more), "mine", "m", place)
        self.assertIs(type(found), list)
        self.assertEqual(found, wanted)

    def test_new(self):
        body = let("o", new("low", ("x", 2), ("self.h", -3)), let("n", new("plain"), BACK))
        self.told((), body, [(("", "x", 2),), (("self.h", "", 8),), (("self.h", "x", 3 + 2 + 3),)])
        self.told((0,), body, [])
        self.told((), let("o", new("top", ("", -5)), BACK), [(("", "", -5),)])

    def test_call(self):
        # The view is asked: a low has another get than a top.
        params = (("x", "int"), ("p", "low"), ("q", "top"))
        body = let("t", ("as", "p", "top"), let("r", call("t", "get", ("x", 3)), let("s", call("p", "get", ("", 5)), BACK)))
        self.told((0,), body, [most("x", 6)], params=params)
        self.told((0, 0), body, [(("", "", 6),)], params=params)

    def test_call_with_objects(self):
        params = (("p", "low"), ("q", "top"))
        body = let("t", ("as", "p", "top"), let("r", call("q", "put", "t"), let("s", call("r", "put", "r"), BACK)))
        self.told((0,), body, [(("p.f", "q.f", 0),)], params=params)
        self.told((0, 0), body, [(("r.f", "r.f", 0),)], params=params)

    def test_call_of_self(self):
        made = Method("m", X, "int", pre=Cond((("x", "self.f", 1),)), body=let("r", call("self", "m", ("x", 2)), BACK))
        found = Library(ClassDef("b", fields=("f",), methods=(made,)))
        self.assertEqual(claims(found, "b", "m", ()), [(("x", "self.f", -1),)])

    def test_next(self):
        body = let("r", following(("x", 3)), BACK)
        self.told((), body, [least("self.h", 1)])
        found = Library(writing("a", pre=Cond(most("x", 1), most("x", 1))), writing("b", ("a",), body=body))
        self.assertEqual(claims(found, "b", "m", ()), [most("x", -2), most("x", -2)])

    def test_return(self):
        post = Cond((("result", "x", 1),), (("self.i", "result", 2), ("x", "", 5)), (("result", "result", 0),))
        self.told((), ("return", ("x", 7)), [(("x", "x", -6),), (("self.i", "x", 9), ("x", "", 5)), (("x", "x", 0),)], post=post)
        self.told((0,), let("v", ASK, ("return", ("v", -1))),
                  [(("v", "x", 2),), (("self.i", "v", 1), ("x", "", 5)), (("v", "v", 0),)], post=post)
        self.told((), ("return", ("", 7)), [(("", "x", -6),), (("self.i", "", 9), ("x", "", 5)), (("", "", 0),)], post=post)

    def test_return_of_an_object(self):
        post = Cond((("result.f", "p.f", 1),), (("result.f", "result.f", 2),))
        params = (("p", "low"),)
        for back, stem in [("p", "p"), ("t", "p"), ("o", "o")]:
            body = let("t", ("as", "p", "top"), let("o", new("top", ("", 1)), ("return", back)))
            self.told((0, 0), body, [((f"{stem}.f", "p.f", 1),), ((f"{stem}.f", f"{stem}.f", 2),)], params=params, result="top",
                      post=post)

    def test_as_often_as_they_stand(self):
        self.told((), ("return", ("x", 0)), [most("x", 1)] * 3, post=Cond(*[most("result", 1)] * 3))

    def test_where_no_way_leads(self):
        body = attempt(BACK, let("r", following(("x", 3)), BACK))
        self.told((1,), body, [least("self.h", 1)])
        found = library(body)
        self.assertIs(can_fail(found, "mine", "m", (1,)), None)
        self.assertEqual(closed_ways(found, "mine", "m", (1,)), [])
        self.assertEqual(list(ways(found, "mine", "m", (1,))), [])

    def test_a_new_list(self):
        found = library(let("r", following(("x", 3)), BACK))
        claims(found, "mine", "m", ()).clear()
        self.assertEqual(len(claims(found, "mine", "m", ())), 1)


class Fails(unittest.TestCase):

    def shown(self, made, name, method, place):
        """Whether a site can fail; the values or the trees that show it are looked at."""
        asked = claims(made, name, method, place)
        rows = [frozenset(way) for way in ways(made, name, method, place)]
        found = can_fail(made, name, method, place)
        closed = closed_ways(made, name, method, place)
        if found is None:
            self.assertIs(type(closed), list)
            self.assertEqual({frozenset(facts) for facts, _ in closed}, set(rows))
            for facts, trees in closed:
                self.assertIs(type(trees), list)
                self.assertEqual(len(trees), len(asked))
                for claim, tree in zip(asked, trees):
                    self.assertTrue(closes(facts + list(negated(claim)), tree))
            return False
        self.assertIs(closed, None)
        facts, at, values = found
        self.assertIn(frozenset(facts), rows)
        self.assertTrue(hold(facts, values))
        self.assertFalse(hold(asked[at:at + 1], values))
        self.assertEqual(set(values), terms_of(facts + asked[at:at + 1]))
        return True

    def test_by_one_number(self):
        for number, fails in [(9, False), (10, True), (-GREAT, False), (GREAT, True)]:
            body = let("r", call("self", "n", ("x", number)), ("return", ("r", 1)))
            other = Method("n", X, "int", pre=Cond(most("x", 14)), post=Cond(most("result", 3)), body=HALT)
            its = Method("m", X, "int", pre=Cond(most("x", 5)), post=Cond(most("result", 4)), body=body)
            made = Library(ClassDef("a", methods=(its, other)))
            self.assertIs(self.shown(made, "a", "m", ()), fails)
            self.assertIs(self.shown(made, "a", "m", (0,)), False)

    def test_new_and_return(self):
        for number in (2, 3, 4, 5):
            body = let("o", new("top", ("x", -number)), ("return", ("o.f", 0)))
            made = Library(ClassDef("top", fields=("f",), where=Cond(least("self.f", 0))),
                           writing("a", pre=Cond(least("x", 3)), post=Cond((("x", "result", 4),)), body=body))
            self.assertIs(self.shown(made, "a", "m", ()), number > 3)
            self.assertIs(self.shown(made, "a", "m", (0,)), number > 4)

    def test_a_branch_helps(self):
        for number in (4, 5, 6):
            body = when(let("o", new("top", ("x", 0)), BACK), let("o", new("top", ("", -1)), BACK), ("x", "", number))
            made = Library(ClassDef("top", fields=("f",), where=Cond(most("self.f", 5), least("self.f", 0))),
                           writing("a", pre=Cond(least("x", 0)), body=body))
            self.assertIs(self.shown(made, "a", "m", (0,)), number > 5)
            self.assertIs(self.shown(made, "a", "m", (1,)), True)

    def test_a_breach_tells_something(self):
        # The second part is reached only if x is above 5.
        for number in (6, 7):
            second = let("o", new("high", ("x", 0)), BACK)
            made = Library(
                ClassDef("top", fields=("f",), where=Cond(most("self.f", 5))),
                ClassDef("high", fields=("g",), where=Cond(least("self.g", number))),
                writing("a", body=attempt(let("o", new("top", ("x", 0)), BACK), second)),
            )
            self.assertIs(self.shown(made, "a", "m", (0,)), True)
            self.assertIs(self.shown(made, "a", "m", (1,)), number > 6)

    def test_one_way_of_several(self):
        # By the second new the second part is reached with any x.
        second = let("o", new("high", ("x", 0)), BACK)
        first = let("o", new("top", ("x", 0)), let("p", new("top", ("x", 1)), BACK))
        for number in (4, 5, 6):
            made = Library(
                ClassDef("top", fields=("f",), where=Cond(most("self.f", 5))),
                ClassDef("high", fields=("g",), where=Cond(least("self.g", number))),
                writing("a", body=attempt(first, second)),
            )
            self.assertIs(self.shown(made, "a", "m", (1,)), number > 5)
            self.assertEqual(len(closed_ways(made, "a", "m", (1,)) or [0, 0]), 2)

    def test_claims_of_two_literals(self):
        either = (("x", "", 3), ("", "x", -6))
        for number, fails in [(3, False), (4, True)]:
            body = when(let("r", call("self", "n", ("x", 0)), BACK), BACK, ("x", "", number))
            other = Method("n", X, "int", pre=Cond(either), body=HALT)
            made = Library(ClassDef("a", methods=(Method("m", X, "int", body=body), other)))
            self.assertIs(self.shown(made, "a", "m", (0,)), fails)

    def test_no_claims(self):
        made = library(attempt(let("r", following(("x", 3)), let("n", new("plain"), BACK)), BACK))
        self.assertIs(self.shown(made, "mine", "m", (0, 0)), False)
        (facts, trees), = closed_ways(made, "mine", "m", (0, 0))
        self.assertEqual(trees, [])
        self.assertEqual([row for _, row in closed_ways(made, "mine", "m", (1,))], [[]])

    def test_new_lists(self):
        made = library(BACK, post=Cond(NEVER))
        can_fail(made, "mine", "m", ())[0].clear()
        self.assertTrue(can_fail(made, "mine", "m", ())[0])
        made = library(BACK)
        closed_ways(made, "mine", "m", ())[0][0].clear()
        closed_ways(made, "mine", "m", ()).clear()
        self.assertTrue(closed_ways(made, "mine", "m", ())[0][0])

    def test_random(self):
        many = {True: 0, False: 0}
        for seed in range(100):
            try:
                made = randoms.library(random.Random(seed), dense=seed % 2 == 0)
            except BadLibrary:
                continue
            for name in made.names:
                for method in made[name].methods:
                    for site in sites(made, name, method.name):
                        many[self.shown(made, *site)] += 1
        self.assertGreater(min(many.values()), 150)


if __name__ == "__main__":
    unittest.main()
