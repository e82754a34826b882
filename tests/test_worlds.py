"""[9.1] to [9.4]: worlds in which the check of a site fails, and worlds in which an heir is to blame."""

import random
import unittest

from contractheirs.bodies import sites
from contractheirs.checks import BodyCheck, CallCheck, HeirEntry, HeirExit, NewCheck
from contractheirs.classes import ClassDef, Method
from contractheirs.conditions import Cond
from contractheirs.duties import duties, verdict
from contractheirs.errors import BadLibrary, Breach, NoClass, NoDuty, NoMethod, NoSite
from contractheirs.faults import at_fault
from contractheirs.libraries import Library
from contractheirs.runs import breaches, run
from contractheirs.slots import Slot
from contractheirs.ways import can_fail
from contractheirs.worlds import World, blaming_world, spoiling_world
from tests import randoms
from tests.rows import ASK, BACK, HALT, NEVER, X, attempt, call, following, least, let, most, new, when, writing
from tests.support import GREAT, things

PARTS = {"let": (3,), "if": (2, 3), "try": (1, 2)}


class Worlds(unittest.TestCase):

    def is_world_for(self, library, world, kept=None):
        """Checks what the library of a world has to have; kept is a class and a method with its body."""
        self.assertIs(type(world), World)
        self.assertEqual(set(vars(world)), {"library", "client", "tape"})
        rows = world.library.classes
        self.assertEqual([one.name for one in rows[:len(library.classes)]], [one.name for one in library.classes])
        for one in library.classes:
            other = world.library[one.name]
            self.assertEqual((one.bases, one.fields, one.where), (other.bases, other.fields, other.where))
            for its, anew in zip(one.methods, other.methods, strict=True):
                self.assertEqual((its.name, its.params, its.result), (anew.name, anew.params, anew.result))
                self.assertEqual((its.pre, its.post), (anew.pre, anew.post))
                if (one.name, its.name) == kept:
                    self.assertEqual(its.body, anew.body)
        further = [one.name for one in rows[len(library.classes):]]
        for duty in duties(world.library):
            if duty.heir in further:
                self.assertEqual(verdict(world.library, duty)[0], "kept")

    def is_in_a_first_part(self, body, place):
        """Whether a site is a call, next or new in the first part of a try."""
        found = False
        for digit in place:
            found = found or (body[0] == "try" and digit == 0)
            body = body[PARTS[body[0]][digit]]
        return found and body[0] != "return"

    def spoilt(self, library, name, method, place):
        """Whether there is a world for a site; its run is looked at."""
        world = spoiling_world(library, name, method, place)
        if world is None:
            self.assertIs(can_fail(library, name, method, place), None)
            return False
        self.is_world_for(library, world, (name, method))
        site = (name, method, place)
        found = breaches(world.library, world.client, world.tape)
        its = [one for one in found if one.site == site and one.kind in ("call", "new", "body")]
        self.assertTrue(its)
        for breach in its:
            self.assertEqual(breach.blamed, name)
        for breach in found:
            self.assertIs(at_fault(world.library, breach), True)
        body = [one for one in library[name].methods if one.name == method][0].body
        if not self.is_in_a_first_part(body, place):
            with self.assertRaises(Breach) as caught:
                run(world.library, world.client, world.tape)
            self.assertEqual((caught.exception.site, caught.exception.blamed), (site, name))
            self.assertIn(caught.exception.kind, ("call", "new", "body"))
        return True

    def blamed(self, library, duty):
        """Whether there is a world for a duty; its run is looked at."""
        world = blaming_world(library, duty)
        if world is None:
            self.assertEqual(verdict(library, duty)[0], "kept")
            return False
        self.is_world_for(library, world)
        with self.assertRaises(Breach) as caught:
            run(world.library, world.client, world.tape)
        breach = caught.exception
        self.assertEqual((breach.kind, breach.side, breach.slot, breach.blamed), ("heir", duty.SIDE, duty.slot, duty.heir))
        self.assertEqual(breach.of, duty.above if isinstance(duty, HeirExit) else duty.heir)
        self.assertIs(at_fault(world.library, breach), True)
        return True

    def all_spoilt(self, library, name="a", method="m"):
        """The places of the sites of a body that can fail."""
        return [place for _, _, place in sites(library, name, method) if self.spoilt(library, name, method, place)]


class Made(Worlds):

    def test_of_anything(self):
        for thing in things() + [[], {}]:
            made = World(thing, [thing], {1: thing})
            self.assertIs(made.library, thing)
            self.assertEqual(vars(made), {"library": thing, "client": [thing], "tape": {1: thing}})
        with self.assertRaises(TypeError):
            World(1, 2)


def a(body, *others, **contract):
    """A library with the class a, its method m and a method n; others are further classes."""
    its = Method("m", contract.pop("params", X), contract.pop("result", "int"), pre=contract.pop("pre", None),
                 post=contract.pop("post", None), body=body)
    return Library(ClassDef("a", contract.pop("bases", ()), methods=(its, *contract.pop("methods", ())), **contract), *others)


POINT = ClassDef("point", fields=("f", "g"), where=Cond(most("self.f", 5), (("self.g", "self.f", 2),)))


class Spoilt(Worlds):

    def test_return(self):
        for number in (4, 5, 6):
            library = a(("return", ("x", -1)), pre=Cond(most("x", number)), post=Cond(most("result", 4)))
            self.assertEqual(self.all_spoilt(library), [()] if number > 5 else [])

    def test_new(self):
        for number in (3, 4):
            library = a(let("o", new("point", ("x", 1), ("x", number)), BACK), POINT, pre=Cond(most("x", 4)))
            self.assertEqual(self.all_spoilt(library), [()] if number > 3 else [])

    def test_call_of_another_method(self):
        other = Method("n", X, "int", pre=Cond(most("x", 3)), post=Cond((("result", "x", 2),)), body=HALT)
        body = let("r", call("self", "n", ("x", 0)), let("s", call("self", "n", ("r", 0)), ("return", ("s", 0))))
        library = a(body, methods=(other,), pre=Cond(most("x", 3)), post=Cond(most("result", 4)))
        self.assertEqual(self.all_spoilt(library), [(0,), (0, 0)])
        library = a(body, methods=(other,), pre=Cond(most("x", 1)), post=Cond(most("result", 5)))
        self.assertEqual(self.all_spoilt(library), [])

    def test_one_method_gives_back_several_things(self):
        # The same call four times, and each result differs from the one ahead.
        other = Method("n", (), "int", body=HALT)
        body = ("return", ("z", 0))
        for name, ahead in [("z", "y"), ("y", "w"), ("w", "v"), ("v", None)]:
            rest = when(body, HALT, (ahead, name, -1)) if ahead else body
            body = let(name, call("self", "n"), rest)
        library = a(body, methods=(other,), post=Cond(most("result", 100)))
        self.assertEqual(self.all_spoilt(library), [(0, 0, 0, 0, 0, 0, 0)])

    def test_next(self):
        above = writing("b", pre=Cond(most("x", 3)), post=Cond(most("result", 6)))
        body = let("r", following(("x", 1)), let("s", following(("r", -4)), ("return", ("s", 0))))
        library = a(body, above, bases=("b",), pre=Cond(most("x", 3)), post=Cond(most("result", 5)))
        self.assertEqual(self.all_spoilt(library), [(), (0, 0)])
        library = a(body, above, bases=("b",), pre=Cond(most("x", 2)), post=Cond(most("result", 6)))
        self.assertEqual(self.all_spoilt(library), [])
        library = a(let("r", following(("x", 1)), let("s", following(("r", -2)), BACK)), above, bases=("b",), pre=Cond(most("x", 2)))
        self.assertEqual(self.all_spoilt(library), [(0,)])

    def test_objects_passed_and_returned(self):
        params = (("p", "point"), ("q", "low"), ("x", "int"))
        low = ClassDef("low", ("point",), fields=("h",), where=Cond((("self.h", "self.g", 0),)))
        other = Method("n", (("p", "point"),), "low", post=Cond((("result.h", "p.f", 0),)), body=HALT)
        body = let("o", call("self", "n", "q"), let("t", call("self", "n", "o"), when(("return", ("t.h", 0)), HALT, (
            "o.h", "t.h", -1))))
        for number, places in [(5, []), (4, [(0, 0, 0)])]:
            library = a(body, POINT, low, methods=(other,), params=params, post=Cond(most("result", number)))
            self.assertEqual(self.all_spoilt(library), places)

    def test_object_results(self):
        body = let("o", new("point", ("x", 0), ("", 0)), when(("return", "o"), ("return", "p"), ("x", "", 4)))
        library = a(body, POINT, params=(("x", "int"), ("p", "point")), result="point", post=Cond(most("result.f", 4)),
                    pre=Cond(least("x", 0)))
        self.assertEqual(self.all_spoilt(library), [(), (0, 1)])

    def test_ask_and_int(self):
        body = let("v", ASK, let("w", ("int", "v", 3), let("u", ASK, when(("return", ("w", 0)), BACK, ("u", "w", -7)))))
        library = a(body, post=Cond(least("result", 0)))
        self.assertEqual(self.all_spoilt(library), [(0, 0, 0, 0)])

    def test_where_and_precondition_of_self(self):
        base = ClassDef("b", fields=("f",), where=Cond(least("self.f", 2)))
        for number, places in [(6, []), (7, [()])]:
            library = a(("return", ("self.g", 0)), base, bases=("b",), fields=("g",), where=Cond((("self.g", "self.f", 1),)),
                        pre=Cond((("self.f", "x", 0),), most("x", number - 1)), post=Cond(most("result", 6)))
            self.assertEqual(self.all_spoilt(library), places)

    def test_two_literals(self):
        library = a(("return", ("x", 0)), pre=Cond((("x", "", 3), ("", "x", -6))), post=Cond((("result", "", 2), ("", "result", -6))))
        self.assertEqual(self.all_spoilt(library), [()])

    def test_great_numbers(self):
        library = a(let("o", new("point", ("x", GREAT), ("x", 0)), ("return", ("x", 0))), POINT,
                    pre=Cond(least("x", -GREAT), most("x", 5 - GREAT)), post=Cond((("result", "x", -1),)))
        self.assertEqual(self.all_spoilt(library), [(0,)])
        other = Method("n", X, "point", post=Cond((("result.f", "x", -GREAT),), (("x", "result.g", -GREAT),)), body=HALT)
        wide = ClassDef("point", fields=("f", "g"))
        body = let("o", call("self", "n", ("x", GREAT)), ("return", ("o.g", 0)))
        library = a(body, wide, methods=(other,), post=Cond((("result", "x", GREAT),)))
        self.assertEqual(self.all_spoilt(library), [(0,)])


    def test_further_classes_only_where_they_are_wanted(self):
        plain = a(("return", ("x", 0)), post=Cond(most("result", 4)))
        self.assertEqual(spoiling_world(plain, "a", "m", ()).library.names, ("a",))
        own = a(let("r", call("self", "m", ("x", 0)), ("return", ("x", 0))), post=Cond(most("result", 4)))
        self.assertEqual(len(spoiling_world(own, "a", "m", (0,)).library.names), 2)

    def test_names_that_are_taken(self):
        # All short words, also as names of parameters, so that what a world adds needs other names.
        words = [one + other for one in "abc" for other in "abcdefghijklmnopqrstuvwxyz"]
        words.remove("as")
        rows = []
        for k in range(13):
            params = [tuple((word, "int") for word in words[6 * k + 3 * at:6 * k + 3 * at + 3]) for at in range(2)]
            methods = tuple(Method("mn"[at], params[at], "int", body=HALT) for at in range(2))
            rows.append(ClassDef(words[k], methods=methods))
        its = (("aa", "int"), ("ab", "zz"), ("ac", "int"))
        fail = attempt(let("r", call("ab", "m", ("aa", 0), "self", ("ac", 0)), let("s", call("self", "m", ("r", 0), "ab", ("ac", 1)), HALT)),
                       let("v", ASK, ("return", ("v", 0))))
        rows.append(ClassDef("zz", methods=(Method("m", its, "int", pre=Cond((("aa", "ac", 0),)), post=Cond(most("result", 7)), body=fail),)))
        library = Library(*rows)
        self.assertEqual(self.all_spoilt(library, "zz"), [(0, 0), (1, 0)])
        heir = ClassDef("yy", ("zz",), methods=(Method("m", its, "int", pre=Cond((("aa", "ac", -1),)), body=HALT),))
        library = Library(*rows[1:], heir)
        self.assertIs(self.blamed(library, HeirEntry("yy", Slot("call", "zz", "m"))), True)


class SpoiltTries(Worlds):

    def test_in_a_first_part(self):
        body = attempt(let("o", new("point", ("x", 0), ("", 0)), ("return", ("x", 0))), ("return", ("x", 1)))
        library = a(body, POINT, post=Cond(most("result", 4)))
        self.assertEqual(self.all_spoilt(library), [(0,), (0, 0), (1,)])

    def test_behind_a_new_that_breached(self):
        # Only by the second clause, so y is above x + 2.
        params = (("x", "int"), ("y", "int"))
        first = let("o", new("point", ("x", 0), ("y", 0)), ("return", ("", 9)))
        for term, number, places in [("x", 1, [(0,)]), ("x", 2, [(0,), (1,)]), ("y", 4, [(0,)]), ("y", 5, [(0,), (1,)])]:
            library = a(attempt(first, ("return", (term, 0))), POINT, params=params, pre=Cond(most("x", 5), least("x", 1)),
                        post=Cond(least("result", number)))
            self.assertEqual(self.all_spoilt(library), places)

    def test_behind_a_call_that_breached_at_its_entry(self):
        # The values let the precondition of n fail, so its body is not begun; the tape has nothing for it.
        other = Method("n", X, "int", pre=Cond(most("x", 3)), body=HALT)
        body = attempt(let("r", call("self", "n", ("x", 0)), BACK), let("v", ASK, ("return", ("v", 0))))
        for number in (3, 4):
            library = a(body, methods=(other,), pre=Cond(least("x", number)), post=Cond((("result", "x", 7),)))
            self.assertEqual(self.all_spoilt(library), [(0,), (1, 0)])

    def test_behind_a_call_that_breached_within(self):
        other = Method("n", X, "int", pre=Cond(least("x", 0)), post=Cond((("result", "x", 0),)), body=HALT)
        first = let("r", call("self", "n", ("x", 0)), let("s", call("self", "n", ("r", 5)), BACK))
        # Also where nothing is known of x, but n asks something.
        for asks in (Cond(least("x", 0)), Cond(most("x", 0)), Cond(least("x", 1)), Cond(most("x", -1))):
            second = let("v", ASK, ("return", ("v", 0)))
            made = a(attempt(let("r", call("self", "n", ("x", 0)), BACK), second), methods=(Method("n", X, "int", pre=asks, body=HALT),),
                     post=Cond(most("result", 9)))
            self.assertIn((1, 0), self.all_spoilt(made))
        for pre in (Cond(least("x", 0)), Cond(most("x", -1)), Cond()):
            library = a(attempt(first, let("v", ASK, ("return", ("v", 0)))), methods=(other,), pre=pre, post=Cond(most("result", 9)))
            self.assertIn((1, 0), self.all_spoilt(library))

    def test_behind_a_next_that_breached(self):
        for pre in (Cond(), Cond(NEVER), Cond(most("x", 5))):
            above = writing("b", pre=pre, post=Cond(NEVER))
            body = attempt(let("r", following(("x", 0)), BACK), let("v", ASK, ("return", ("v", 0))))
            library = a(body, above, bases=("b",), post=Cond(most("result", 9)))
            self.assertIn((1, 0), self.all_spoilt(library))

    def test_tries_within_tries(self):
        other = Method("n", X, "int", pre=Cond(most("x", 3)), body=HALT)
        above = writing("b", pre=Cond(most("x", 8)))
        def asks(name, number):
            return let(name, call("self", "n", ("x", number)), ("return", ("x", number)))
        inner = attempt(let("v", ASK, asks("r", 1)), let("w", ASK, let("r", following(("w", 0)), asks("s", 2))))
        body = attempt(inner, let("u", ASK, attempt(asks("r", 3), ("return", ("u", 0)))))
        for pre in (Cond(), Cond(least("x", 3)), Cond(most("x", 0))):
            library = a(body, above, bases=("b",), methods=(other,), pre=pre, post=Cond(most("result", 2)))
            found = self.all_spoilt(library)
            self.assertIn((1, 0, 1), found)
            self.assertIn((0, 1, 0), found)

    def test_what_comes_behind_the_site_does_no_harm(self):
        # Behind the breach the second part calls m of p again, which must not begin the body anew.
        again = let("r", call("p", "m", "p"), let("s", call("self", "m", "p"), BACK))
        first = let("o", new("point", ("", 9), ("", 9)), BACK)
        library = a(attempt(first, again), POINT, params=(("p", "a"),))
        self.assertEqual(self.all_spoilt(library), [(0,)])
        library = a(attempt(let("r", call("p", "m", "p"), let("o", new("point", ("", 9), ("", 9)), BACK)), again), POINT,
                    params=(("p", "a"),))
        self.assertEqual(self.all_spoilt(library), [(0, 0)])


class SpoiltByOwnCalls(Worlds):
    """Calls of the body's own method: somebody else has to answer."""

    def test_on_self(self):
        body = let("r", call("self", "m", ("x", 1)), let("s", call("self", "m", ("r", 1)), ("return", ("s", 0))))
        for pre, post, places in [(9, 8, [()]), (9, 9, [(), (0,)]), (9, 7, [()])]:
            library = a(body, pre=Cond(most("x", pre)), post=Cond(most("result", post)))
            self.assertEqual(self.all_spoilt(library), places)
        library = a(let("r", call("self", "m", ("x", 0)), ("return", ("r", 1))), post=Cond(most("result", 8)))
        self.assertEqual(self.all_spoilt(library), [(0,)])

    def test_seen_from_above(self):
        above = writing("b", pre=Cond(most("x", 4)))
        body = let("t", ("as", "self", "b"), let("r", call("t", "m", ("x", 0)), let("s", following(("r", 0)), BACK)))
        library = a(body, above, bases=("b",), pre=Cond(most("x", 5)))
        self.assertEqual(self.all_spoilt(library), [(0,), (0, 0)])

    def test_on_parameters_and_results(self):
        # p is of a class below a that does not write m; what n gives back as well.
        low = ClassDef("low", ("a",), fields=("g",), where=Cond(least("self.g", 1)))
        other = Method("n", (), "low", post=Cond(most("result.g", 4)), body=HALT)
        body = let("r", call("p", "m", "p"), let("o", call("p", "n"), let("s", call("o", "m", "p"), let(
            "t", call("self", "m", "o"), when(("return", ("t", 0)), HALT, ("r", "s", -1))))))
        library = a(body, low, methods=(other,), params=(("p", "low"),), fields=("f",), post=Cond((("result", "self.f", 3),), most(
            "result", 50)))
        self.assertEqual(self.all_spoilt(library), [])
        body = let("r", call("p", "m", "p"), let("o", call("p", "n"), let("s", call("o", "m", "p"), let(
            "t", call("self", "m", "o"), when(("return", ("t", 1)), HALT, ("r", "s", -1))))))
        library = a(body, low, methods=(other,), params=(("p", "low"),), fields=("f",), post=Cond((("result", "self.f", 3),), most(
            "result", 50)))
        self.assertEqual(self.all_spoilt(library), [(0, 0, 0, 0, 0)])

    def test_where_an_heir_writes_the_method(self):
        low = ClassDef("low", ("a",), methods=(Method("m", (("p", "a"),), "int", post=Cond(most("result", 5)), body=HALT),))
        body = let("o", new("low"), let("r", call("o", "m", "p"), let("s", call("p", "m", "o"), ("return", ("r", 0)))))
        for number in (4, 5):
            library = a(body, low, params=(("p", "a"),), post=Cond(most("result", number)))
            self.assertEqual(self.all_spoilt(library), [(0, 0, 0)] if number < 5 else [])

    def test_that_breached(self):
        body = attempt(let("r", call("self", "m", ("x", 1)), let("s", call("self", "m", ("r", 0)), BACK)), ("return", ("x", 0)))
        for post in (3, 9):
            library = a(body, pre=Cond(most("x", 9)), post=Cond(most("result", post)))
            found = self.all_spoilt(library)
            self.assertEqual((1,) in found, post < 9)
            self.assertIn((0,), found)

    def test_object_results(self):
        body = let("o", call("self", "m", ("x", 0)), let("r", call("o", "m", ("x", 1)), when(("return", "r"), HALT, (
            "o.f", "r.f", -1))))
        for number in (3, 4):
            library = a(body, result="a", fields=("f",), post=Cond((("x", "result.f", number - 3),)), pre=Cond(
                (("x", "self.f", 1),)))
            self.assertEqual(self.all_spoilt(library), [] if number == 3 else [(0,)])
            library = a(body, result="a", fields=("f",), post=Cond((("result.f", "", 9),), (("x", "result.f", 0),)), pre=Cond(
                (("x", "", number),), (("", "self.f", -10),)))
            self.assertIn((0,), self.all_spoilt(library))


class Large(Worlds):

    def fourteen(self, body=None, pre=None, post=None):
        """A chain of 14 classes with 42 fields; m stands in the first, n in the last one."""
        names = ["a"] + ["c" + letter for letter in "bcdefghijklmn"]
        rows = []
        for k, name in enumerate(names):
            fields = tuple(f"{name}{letter}" for letter in "xyz")
            where = Cond(*[least("self." + field, k) for field in fields], most("self." + fields[0], 100 + k))
            methods = ()
            if k == 0:
                other = Method("n", (("x", "int"),), names[-1], post=Cond(most("result.ax", 50)), body=HALT)
                its = Method("m", (("p", names[-1]), ("x", "int"), ("q", "a")), names[-1], pre=pre, post=post, body=body or HALT)
                methods = (its, other)
            rows.append(ClassDef(name, (names[k - 1],) if k else (), fields=fields, where=where, methods=methods))
        return Library(*rows), names

    def test_objects_with_many_fields(self):
        body = let("o", call("self", "n", ("x", 0)), let("t", call("o", "m", "o", ("x", 0), "self"), let(
            "u", call("p", "m", "t", ("x", 1), "q"), let("v", call("u", "n", ("x", 0)), when(("return", "v"), HALT, (
                "o.cny", "v.cnz", -7))))))
        for number in (49, 50):
            library, _ = self.fourteen(body, post=Cond(most("result.ax", number)))
            self.assertEqual((0, 0, 0, 0, 0) in self.all_spoilt(library), number == 49)

    def test_duties_at_the_end_of_a_long_way(self):
        # A diamond at the top: the last class joins one that asks more behind a chain of nexts.
        names = ["c" + letter for letter in "bcdefghijkl"]
        for number in (4, 5):
            rows = [writing("a", fields=("f",)), writing("b", ("a",), pre=Cond(most("self.f", 4)))]
            for k, name in enumerate(names):
                pre = Cond(most("self.f", number), (("x", "self.f", k),)) if k == 0 else Cond((("x", "self.f", k),))
                rows.append(writing(name, (names[k - 1],) if k else ("a",), pre=pre))
            rows.append(ClassDef("z", (names[-1], "b")))
            library = Library(*rows)
            self.assertEqual(len(library.names), 14)
            self.assertIs(self.blamed(library, HeirEntry("z", Slot("next", names[0], "m"))), number == 5)


class Blamed(Worlds):

    def test_entries(self):
        for number in (8, 9):
            library = Library(writing("b", pre=Cond(most("x", 9))), writing("a", ("b",), pre=Cond(most("x", number))))
            self.assertIs(self.blamed(library, HeirEntry("a", Slot("call", "b", "m"))), number == 8)

    def test_exits(self):
        for number in (9, 10):
            library = Library(writing("b", post=Cond(most("result", 9))), writing("a", ("b",), post=Cond(most("result", number))))
            self.assertIs(self.blamed(library, HeirExit("a", Slot("call", "b", "m"), "b")), number == 10)

    def test_wheres_and_objects(self):
        params = (("x", "int"), ("p", "point"))
        for number in (6, 7):
            library = Library(
                POINT, writing("b", params=params, fields=("h",), where=Cond(least("self.h", 3)), post=Cond(most("result", 9))),
                writing("a", ("b",), params=params, pre=Cond((("p.g", "self.h", 4),)), post=Cond((("result", "p.g", 2),))),
            )
            self.assertIs(self.blamed(library, HeirExit("a", Slot("call", "b", "m"), "b")), False)
            library = Library(
                POINT, writing("b", params=params, fields=("h",), where=Cond(least("self.h", 3)), pre=Cond(most("p.f", 5)),
                               post=Cond(most("result", 9))),
                writing("a", ("b",), params=params, pre=Cond((("p.g", "self.h", number - 3),)), post=Cond((("result", "p.g", 3),))),
            )
            self.assertIs(self.blamed(library, HeirEntry("a", Slot("call", "b", "m"))), number == 6)
            self.assertIs(self.blamed(library, HeirExit("a", Slot("call", "b", "m"), "b")), True)

    def test_object_results(self):
        for number in (2, 3, 4):
            library = Library(POINT, writing("b", result="point", post=Cond(most("result.g", 6)), body=HALT),
                              writing("a", ("b",), result="point", post=Cond(most("result.f", number)), body=HALT))
            self.assertIs(self.blamed(library, HeirExit("a", Slot("call", "b", "m"), "b")), number > 4)
            library = Library(POINT, writing("b", result="point", post=Cond(most("result.g", 5)), body=HALT),
                              writing("a", ("b",), result="point", post=Cond(most("result.f", number)), body=HALT))
            self.assertIs(self.blamed(library, HeirExit("a", Slot("call", "b", "m"), "b")), number > 3)

    def test_joining_classes(self):
        def library(pre, post):
            return Library(writing("b"), writing("c", ("b",), pre=Cond(most("x", 5)), post=Cond(most("result", 5))),
                           writing("d", ("b",), pre=Cond(most("x", pre)), post=Cond(most("result", post))), ClassDef("a", ("c", "d")))
        self.assertIs(self.blamed(library(5, 5), HeirEntry("a", Slot("call", "d", "m"))), False)
        self.assertIs(self.blamed(library(6, 5), HeirEntry("a", Slot("call", "d", "m"))), True)
        self.assertIs(self.blamed(library(5, 5), HeirExit("a", Slot("call", "d", "m"), "d")), False)
        self.assertIs(self.blamed(library(5, 4), HeirExit("a", Slot("call", "d", "m"), "d")), True)
        self.assertIs(self.blamed(library(5, 4), HeirExit("a", Slot("call", "b", "m"), "d")), True)
        self.assertIs(self.blamed(library(5, 4), HeirExit("a", Slot("call", "b", "m"), "c")), False)
        # At the next of c it is d that answers.
        self.assertIs(self.blamed(library(5, 5), HeirEntry("a", Slot("next", "c", "m"))), True)
        self.assertIs(self.blamed(library(5, 5), HeirExit("a", Slot("next", "c", "m"), "c")), False)

    def test_the_way_to_a_next(self):
        # h: e, d, b, c, g, a; each next passes a new object and another number.
        params = (("x", "int"), ("p", "point"))
        def library(*numbers):
            def made(name, bases, number, **more):
                return writing(name, bases, params=params, pre=Cond((("x", "self.f", number),), (("p.f", "x", number),)), **more)
            rows = [made("e", ("d",), numbers[0]), made("b", ("a",), numbers[1]), made("c", ("a",), numbers[2])]
            return Library(*rows, made("a", (), numbers[3], fields=("f",)), ClassDef("d", ("b", "c")), ClassDef("g", ("a",)),
                           ClassDef("h", ("e", "g")), POINT)
        self.assertEqual(library(1, 2, 3, 4).order_of("h"), ["h", "e", "d", "b", "c", "g", "a"])
        self.assertIs(self.blamed(library(1, 2, 3, 4), HeirEntry("h", Slot("next", "b", "m"))), False)
        self.assertIs(self.blamed(library(1, 2, 3, 4), HeirEntry("h", Slot("next", "c", "m"))), False)
        self.assertIs(self.blamed(library(4, 3, 2, 1), HeirEntry("d", Slot("next", "b", "m"))), False)
        self.assertIs(self.blamed(library(4, 3, 0, 1), HeirEntry("d", Slot("next", "b", "m"))), True)
        self.assertIs(self.blamed(library(4, 3, -2, 1), HeirEntry("d", Slot("next", "b", "m"))), True)

    def test_exits_at_a_next(self):
        params = (("x", "int"), ("p", "point"))
        def library(first, second):
            def made(name, bases, number, **more):
                return writing(name, bases, params=params, result="point", post=Cond((("result.g", "p.f", number),)), body=HALT, **more)
            return Library(POINT, made("a", (), first), made("b", ("a",), 9), made("c", ("a",), second), ClassDef("d", ("b", "c")))
        for first, second, broken in [(3, 3, False), (3, 4, True), (4, 3, False)]:
            self.assertIs(self.blamed(library(first, second), HeirExit("d", Slot("next", "b", "m"), "b")), broken)

    def test_no_way(self):
        library = Library(writing("b"), writing("a"), writing("c", ("a",), pre=Cond(NEVER)), ClassDef("d", ("b", "c")))
        self.assertIs(self.blamed(library, HeirEntry("d", Slot("next", "c", "m"))), False)

    def test_great_numbers(self):
        for number, broken in [(GREAT, False), (GREAT - 1, True), (-GREAT, True)]:
            library = Library(writing("b", pre=Cond(most("x", GREAT))), writing("a", ("b",), pre=Cond(most("x", number))))
            self.assertIs(self.blamed(library, HeirEntry("a", Slot("call", "b", "m"))), broken)
            library = Library(writing("b", post=Cond((("result", "x", number),))), writing("a", ("b",), post=Cond(
                (("result", "x", GREAT),))))
            self.assertIs(self.blamed(library, HeirExit("a", Slot("call", "b", "m"), "b")), broken)


class Random(Worlds):

    def check(self, library, many):
        for name in library.names:
            for method in library[name].methods:
                for site in sites(library, name, method.name):
                    key = ("site", self.spoilt(library, *site))
                    many[key] = many.get(key, 0) + 1
        for duty in duties(library):
            key = (duty.SIDE, duty.slot.word, self.blamed(library, duty))
            many[key] = many.get(key, 0) + 1

    def test_all_sites_and_duties(self):
        many = {}
        for seed in range(160):
            try:
                library = randoms.library(random.Random(seed), most=6, dense=seed % 2 == 0, weight=2 + seed % 2)
            except BadLibrary:
                continue
            self.check(library, many)
        self.assertEqual(len(many), 10)
        self.assertGreater(many["site", True], 200)

    def test_great_numbers(self):
        # The same with all numbers of conditions and bodies so much greater.
        def times(thing):
            if isinstance(thing, tuple):
                return tuple(times(one) for one in thing)
            return thing * (GREAT // 9) if isinstance(thing, int) else thing
        many = {}
        for seed in range(60):
            try:
                library = randoms.library(random.Random(seed), dense=seed % 2 == 0)
            except BadLibrary:
                continue
            rows = []
            for one in library.classes:
                methods = []
                for its in one.methods:
                    methods.append(Method(its.name, its.params, its.result, pre=Cond(*times(its.pre.clauses)),
                                          post=Cond(*times(its.post.clauses)), body=times(its.body)))
                rows.append(ClassDef(one.name, one.bases, fields=one.fields, where=Cond(*times(one.where.clauses)),
                                     methods=tuple(methods)))
            self.check(Library(*rows), many)
        self.assertGreater(many["site", True], 50)


class Refused(unittest.TestCase):

    def test_sites(self):
        library = a(attempt(when(BACK, HALT), BACK), ClassDef("b", ("a",)))
        for thing in things() + [[], {}, "zz", ["a"]]:
            for error, key, arguments in [(NoClass, "name", (thing, [], [])), (NoMethod, "method", ("a", thing, [])),
                                          (NoSite, "place", ("a", "m", thing))]:
                if thing == () and error is NoSite:
                    continue
                with self.assertRaises(error) as caught:
                    spoiling_world(library, *arguments)
                self.assertIs(getattr(caught.exception, key), thing)
        for place in [(), (0,), (0, 1), (True,), (2,), [1], (0, 0, 0)]:
            with self.assertRaises(NoSite):
                spoiling_world(library, "a", "m", place)
        with self.assertRaises(NoMethod):
            spoiling_world(library, "b", "m", ())

    def test_duties(self):
        library = Library(writing("b"), writing("a", ("b",)))
        wrong = [HeirEntry("b", Slot("call", "b", "m")), HeirExit("a", Slot("call", "b", "m"), "a"), HeirEntry([], []),
                 CallCheck(("a", "m", ())), NewCheck(1), BodyCheck(1), [], {}]
        for thing in things() + wrong:
            with self.assertRaises(NoDuty) as caught:
                blaming_world(library, thing)
            self.assertIs(caught.exception.duty, thing)


if __name__ == "__main__":
    unittest.main()
