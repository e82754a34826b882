"""[8.1], [8.2]: the ways through a body to a site, and their facts."""

import random
import unittest

from contractheirs.bodies import sites
from contractheirs.classes import ClassDef, Method
from contractheirs.conditions import Cond
from contractheirs.errors import BadBody, NoClass, NoMethod, NoSite
from contractheirs.libraries import Library
from contractheirs.ways import can_fail, claims, closed_ways, ways
from tests import naive
from tests.rows import ASK, BACK, HALT, NEVER, X, attempt, call, following, least, let, most, new, when, writing
from tests.support import hold, terms_of, things
from tests.test_random_runs import cases


def same(term, other, number=0):
    """The two clauses that say that a term is another one plus a number."""
    return [((term, other, number),), ((other, term, -number),)]


def library(body, params=X, result="int", pre=None, post=None):
    """Classes with wheres and contracts; body is that of the method m of "mine", which stands below "a"."""
    return Library(
        ClassDef("top", fields=("f",), where=Cond(least("self.f", 0)), methods=(
            Method("get", (("y", "int"),), "int", pre=Cond(most("y", 9)), post=Cond((("result", "self.f", 1),)), body=HALT),
            Method("put", (("p", "top"),), "low", pre=Cond((("p.f", "self.f", 0),)), post=Cond((("result.g", "p.f", 2),)),
                   body=HALT),
        )),
        ClassDef("low", ("top",), fields=("g",), where=Cond(most("self.g", 5), (("self.g", "self.f", 3),)), methods=(
            Method("get", (("y", "int"),), "int", pre=Cond(most("y", 11)), post=Cond((("self.g", "result", 4),)), body=HALT),
        )),
        ClassDef("other", ("top",), fields=("k",)), ClassDef("plain"),
        ClassDef("a", fields=("h",), where=Cond(most("self.h", 7)), methods=(
            Method("m", params, result, pre=Cond(least("self.h", 1)), post=Cond(most("self.h", 6)), body=HALT),)),
        ClassDef("mine", ("a",), fields=("i",), where=Cond((("self.i", "self.h", 0),)), methods=(
            Method("m", params, result, pre=pre, post=post, body=body),)),
    )


# What holds at the beginning of m.
WHERES = [most("self.h", 7), (("self.i", "self.h", 0),)]
# What is known of a top, and of a low, called so.
def top(stem):
    return [least(f"{stem}.f", 0)]


def low(stem):
    return [least(f"{stem}.f", 0), most(f"{stem}.g", 5), ((f"{stem}.g", f"{stem}.f", 3),)]


class Facts(unittest.TestCase):

    def told(self, place, body, *wanted, start=WHERES, **more):
        """Checks the facts of all ways to a place; the order does not matter."""
        rows = []
        for way in ways(library(body, **more), "mine", "m", place):
            self.assertIs(type(way), list)
            self.assertEqual(len(set(way)), len(way))
            rows.append(frozenset(way))
        self.assertEqual(set(rows), {frozenset(start + row) for row in wanted})

    def test_nothing_on_the_way(self):
        self.told((), BACK, [])
        self.told((), BACK, [most("x", 4)], pre=Cond(most("x", 4), most("x", 4)))

    def test_parameters(self):
        params = (("p", "low"), ("x", "int"), ("q", "top"))
        self.told((), BACK, low("p") + top("q") + [(("p.g", "x", 8),)], params=params, pre=Cond((("p.g", "x", 8),)))

    def test_int(self):
        body = let("v", ("int", "x", 3), let("w", ("int", "", -2), let("u", ("int", "self.i", 0), BACK)))
        self.told((0, 0, 0), body, same("v", "x", 3) + same("w", "", -2) + same("u", "self.i"))

    def test_ask(self):
        self.told((0, 0), let("v", ASK, let("w", ("int", "v", 1), BACK)), same("w", "v", 1))

    def test_if(self):
        body = when(let("v", ("int", "x", 1), when(BACK, BACK, ("v", "self.h", -2))), BACK, ("x", "", 4))
        self.told((0, 0, 0), body, [most("x", 4), (("v", "self.h", -2),)] + same("v", "x", 1))
        self.told((0, 0, 1), body, [most("x", 4), (("self.h", "v", 1),)] + same("v", "x", 1))
        self.told((1,), body, [(("", "x", -5),)])

    def test_new(self):
        body = let("o", new("low", ("x", 2), ("", -3)), let("n", new("plain"), let("t", new("top", ("o.g", 1)), BACK)))
        made = low("o") + same("o.f", "x", 2) + same("o.g", "", -3)
        self.told((), body, [])
        self.told((0,), body, made)
        self.told((0, 0), body, made)
        self.told((0, 0, 0), body, made + top("t") + same("t.f", "o.g", 1))

    def test_call(self):
        # The line of a top seen as a top has top alone; that of a low has both, whatever it is seen as.
        body = let("r", call("q", "get", ("x", 3)), let("s", call("p", "get", ("", 5)), BACK))
        params = (("x", "int"), ("p", "low"), ("q", "top"))
        known = low("p") + top("q")
        first = [most("x", 6), (("r", "q.f", 1),)]
        self.told((), body, known, params=params)
        self.told((0,), body, known + first, params=params)
        # Seen as a low, top is not in the line.
        second = [(("", "", 6),), (("p.g", "s", 4),)]
        self.told((0, 0), body, known + first + second, params=params)
        body = let("t", ("as", "p", "top"), let("s", call("t", "get", ("", 5)), BACK))
        self.told((0, 0), body, known + second + [(("", "", 4),), (("s", "p.f", 1),)], params=params)

    def test_call_with_objects(self):
        params = (("p", "low"), ("q", "top"))
        body = let("r", call("p", "put", "q"), let("s", call("r", "put", "r"), BACK))
        known = low("p") + top("q")
        first = [(("q.f", "p.f", 0),), (("r.g", "q.f", 2),)] + low("r")
        self.told((0,), body, known + first, params=params)
        second = [(("r.f", "r.f", 0),), (("s.g", "r.f", 2),)] + low("s")
        self.told((0, 0), body, known + first + second, params=params)
        # An argument that is seen as something else is called as what it was made from.
        body = let("t", ("as", "p", "top"), let("u", ("as", "t", "top"), let("r", call("q", "put", "u"), BACK)))
        self.told((0, 0, 0), body, known + [(("p.f", "q.f", 0),), (("r.g", "p.f", 2),)] + low("r"), params=params)

    def test_next(self):
        body = let("r", following(("x", 3)), let("s", following(("r", 1)), BACK))
        its = [least("self.h", 1), most("self.h", 6)]
        self.told((0,), body, its)
        self.told((0, 0), body, its)

    def test_next_with_its_terms(self):
        params = (("x", "int"), ("p", "top"))
        base = writing("a", params=params, pre=Cond((("x", "p.f", 1),)), post=Cond((("result", "x", 2),)))
        body = let("n", new("top", ("", 4)), let("r", following(("x", 3), "n"), BACK))
        made = Library(ClassDef("top", fields=("f",)), base, ClassDef("b", ("a",), methods=(
            Method("m", params, "int", pre=Cond(most("x", 0)), body=body),)))
        found = list(ways(made, "b", "m", (0, 0)))
        self.assertEqual([set(way) for way in found], [{
            most("x", 0), *same("n.f", "", 4), (("x", "n.f", -2),), (("r", "x", 5),),
        }])

    def test_the_next_of_the_class_itself(self):
        # The known class is the one that writes the body: what an heir puts between is not known.
        def made(name, bases, number, body=BACK):
            return writing(name, bases, pre=Cond(most("x", number)), body=body)
        found = Library(made("a", (), 1), made("b", ("a",), 2, let("r", following(("x", 0)), BACK)), made("c", ("a",), 3),
                        ClassDef("d", ("b", "c")))
        self.assertEqual([set(way) for way in ways(found, "b", "m", (0,))], [{most("x", 2), most("x", 1)}])

    def test_object_results_of_next(self):
        params = (("x", "int"),)
        base = writing("a", params=params, result="top", post=Cond((("result.f", "x", 2),)), body=HALT)
        made = Library(ClassDef("top", fields=("f",), where=Cond(least("self.f", 0))), base, ClassDef("b", ("a",), methods=(
            Method("m", params, "top", body=let("r", following(("", 3)), ("return", "r"))),)))
        self.assertEqual([set(way) for way in ways(made, "b", "m", (0,))], [{least("r.f", 0), (("r.f", "", 5),)}])

    def test_halts_are_no_sites_but_may_stand_beside(self):
        self.told((0,), when(BACK, HALT), [(("", "", 0),)])

    def test_all_sites_of_a_straight_body(self):
        body = let("o", new("top", ("x", 0)), let("r", call("o", "get", ("", 1)), ("return", ("r", 0))))
        found = library(body)
        for _, _, place in sites(found, "mine", "m"):
            self.assertEqual(len(list(ways(found, "mine", "m", place))), 1)


class Tries(unittest.TestCase):
    told = Facts.told

    def test_the_first_part(self):
        body = attempt(let("v", ("int", "x", 1), BACK), BACK)
        self.told((0, 0), body, same("v", "x", 1))

    def test_nothing_can_breach(self):
        for first in (BACK, HALT, let("v", ASK, BACK), let("v", ("int", "x", 1), when()), let("v", ("as", "self", "a"), BACK),
                      let("n", new("plain"), BACK)):
            self.told((1,), attempt(first, BACK))

    def test_a_call(self):
        body = attempt(let("r", call("q", "get", ("x", 3)), BACK), BACK)
        params = (("x", "int"), ("q", "top"))
        self.told((0, 0), body, top("q") + [most("x", 6), (("r", "q.f", 1),)], params=params)
        # A call that breached says nothing.
        self.told((1,), body, top("q"), params=params)

    def test_calls_one_behind_the_other(self):
        body = attempt(let("v", call("q", "get", ("x", 3)), let("r", call("q", "get", ("v", 4)), BACK)), BACK)
        params = (("x", "int"), ("q", "top"))
        first = [most("x", 6), (("0:v", "q.f", 1),)]
        self.told((1,), body, top("q"), top("q") + first, params=params)

    def test_a_next(self):
        self.told((1,), attempt(let("r", following(("x", 3)), BACK), BACK), [])

    def test_a_new(self):
        # A way for each clause of the wheres: those ahead hold, and it does not.
        body = attempt(let("v", ("int", "x", 1), let("o", new("low", ("v", 2), ("x", -3)), BACK)), BACK)
        made = same("0:v", "x", 1)
        holds = [(("", "0:v", 2),), (("x", "", 8),)]
        fails = [(("0:v", "", -3),), (("", "x", -9),), (("0:v", "x", -9),)]
        self.assertEqual(fails[2], (("0:v", "x", -(3 + 3 + 2) - 1),))
        self.told((1,), body, made + fails[:1], made + holds[:1] + fails[1:2], made + holds + fails[2:])

    def test_variables_of_the_first_part(self):
        second = let("v", ("int", "x", 5), let("o", new("top", ("v", 0)), BACK))
        body = let("w", ASK, attempt(let("v", ("int", "w", 1), let("o", new("top", ("v", 2)), let(
            "t", ("as", "o", "top"), let("r", call("t", "get", ("o.f", 3)), BACK)))), second))
        breached = same("00:v", "w", 1)
        # By the new itself, or by the call behind it.
        ways_of = [breached + [(("00:v", "", -3),)],
                   breached + same("000:o.f", "00:v", 2) + [least("000:o.f", 0)]]
        again = same("v", "x", 5)
        self.told((0, 1, 0), body, *[row + again for row in ways_of])
        self.told((0, 1, 0, 0), body, *[row + again + top("o") + same("o.f", "v") for row in ways_of])

    def test_objects_seen_in_the_first_part(self):
        # What is seen by as in a first part is called as what it was made from, which stands outside.
        body = attempt(let("t", ("as", "p", "top"), let("r", call("t", "get", ("x", 0)), let(
            "s", call("t", "get", ("r", 0)), BACK))), BACK)
        params = (("x", "int"), ("p", "low"))
        first = [most("x", 9), most("x", 11), (("00:r", "p.f", 1),), (("p.g", "00:r", 4),)]
        self.told((1,), body, low("p"), low("p") + first, params=params)

    def test_an_inner_first_part_leaves_no_outer_try(self):
        inner = attempt(let("r", call("q", "get", ("x", 3)), BACK), BACK)
        params = (("x", "int"), ("q", "top"))
        self.told((1,), attempt(inner, BACK), params=params)
        self.told((0, 1), attempt(inner, BACK), top("q"), params=params)

    def test_an_inner_second_part_leaves_the_outer_try(self):
        inner = attempt(let("v", ("int", "x", 1), let("r", call("q", "get", ("v", 3)), BACK)),
                        let("w", ("int", "x", 2), let("r", call("q", "get", ("w", 4)), let("s", call("q", "get", ("r", 0)), BACK))))
        params = (("x", "int"), ("q", "top"))
        gone = top("q") + same("00:v", "x", 1)
        # In the inner second part its own variables are known.
        self.told((0, 1, 0), attempt(inner, BACK), gone + same("w", "x", 2), params=params)
        outer = gone + same("01:w", "x", 2)
        first = [most("01:w", 5), (("010:r", "q.f", 1),)]
        self.told((1,), attempt(inner, BACK), outer, outer + first, params=params)

    def test_a_try_in_the_second_part(self):
        body = attempt(let("r", call("q", "get", ("x", 3)), BACK), attempt(let("r", call("q", "get", ("x", 4)), BACK), BACK))
        params = (("x", "int"), ("q", "top"))
        self.told((1, 0), body, top("q"), params=params)
        self.told((1, 0, 0), body, top("q") + [most("x", 5), (("r", "q.f", 1),)], params=params)
        self.told((1, 1), body, top("q"), params=params)

    def test_both_branches_of_a_first_part(self):
        body = attempt(when(let("r", call("q", "get", ("x", 3)), BACK), let("o", new("top", ("x", 0)), BACK), ("x", "", 4)), BACK)
        params = (("x", "int"), ("q", "top"))
        self.told((1,), body, top("q") + [most("x", 4)], top("q") + [(("", "x", -5),), (("x", "", -1),)], params=params)

    def test_a_try_in_a_branch(self):
        body = when(attempt(let("r", call("q", "get", ("x", 3)), BACK), BACK), BACK, ("x", "", 4))
        params = (("x", "int"), ("q", "top"))
        self.told((0, 1), body, top("q") + [most("x", 4)], params=params)
        self.told((1,), body, top("q") + [(("", "x", -5),)], params=params)

    def test_what_the_site_itself_breaks_is_no_fact(self):
        body = attempt(let("o", new("low", ("x", 0), ("x", 0)), BACK), BACK)
        self.told((0,), body, [])


class Refused(unittest.TestCase):

    def asked(self, *arguments):
        """All that ask for a site; a generator is asked for its first way."""
        return [lambda: next(ways(*arguments)), lambda: claims(*arguments), lambda: can_fail(*arguments),
                lambda: closed_ways(*arguments)]

    def refused(self, error, key, value, *arguments):
        for ask in self.asked(*arguments):
            with self.assertRaises(error) as caught:
                ask()
            self.assertIs(getattr(caught.exception, key), value)

    def test_no_class(self):
        made = library(BACK)
        for thing in things() + [[], {}, ["mine"], "zz", ("mine",)]:
            self.refused(NoClass, "name", thing, made, thing, [], [])

    def test_no_method(self):
        made = Library(writing("a"), ClassDef("b", ("a",)))
        for thing in things() + [[], {}, ["m"], "zz", ("m",)]:
            self.refused(NoMethod, "method", thing, made, "a", thing, [])
        # A class that has it does not write it.
        self.refused(NoMethod, "method", "m", made, "b", "m", ())

    def test_no_site(self):
        body = let("v", ASK, let("w", ("int", "v", 1), let("t", ("as", "self", "a"), attempt(
            when(BACK, HALT), let("r", following(("x", 0)), BACK)))))
        made = library(body)
        good = [(0, 0, 0, 0, 0), (0, 0, 0, 1), (0, 0, 0, 1, 0)]
        self.assertEqual([place for _, _, place in sites(made, "mine", "m")], good)
        wrong = [(), (0,), (0, 0), (0, 0, 0), (0, 0, 0, 0), (0, 0, 0, 0, 1), (0, 0, 0, 0, 0, 0), (1,), (2,), (-1,), (0, 0, 0, 2),
                 [0, 0, 0, 1], (0, 0, 0, True), (False, 0, 0, 1), (0, 0, 0, "1"), (0, [], 0, 1), "0001", "mine", {}, [],
                 ("mine", "m", (0, 0, 0, 1)), (0, 0, 0, 1j)]
        for place in things() + wrong:
            self.refused(NoSite, "place", place, made, "mine", "m", place)
        for place in good:
            for ask in self.asked(made, "mine", "m", place)[1:]:
                ask()
            list(ways(made, "mine", "m", place))

    def test_not_before_the_first_one_is_asked_for(self):
        found = ways(Library(), None, None, None)
        with self.assertRaises(NoClass):
            next(found)


class Held(unittest.TestCase):

    def test_the_facts_of_some_way_hold_at_each_site(self):
        many = 0
        behind = 0
        known = {}
        for _, made, client, tape in cases(range(3000, 3300), many=5):
            try:
                seen = naive.outcome(made, client, tape)[2].seen
            except (BadBody, KeyError):
                continue
            for site, values in seen:
                key = (id(made), site)
                if key not in known:
                    known[key] = (made, list(ways(made, *site)))
                row = [way for way in known[key][1] if terms_of(way) <= set(values) and hold(way, values)]
                self.assertTrue(row)
                many += 1
                behind += any(":" in term for term in terms_of(row[0]))
        self.assertGreater(many, 3000)
        self.assertGreater(behind, 20)


if __name__ == "__main__":
    unittest.main()
