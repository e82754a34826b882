"""[6.2] to [6.5]: entries, exits and news that breach, what a Breach tells, and which checks are left out."""

import unittest

from contractheirs.checks import BodyCheck, CallCheck, HeirEntry, HeirExit, NewCheck
from contractheirs.classes import ClassDef, Method
from contractheirs.conditions import Cond
from contractheirs.errors import Breach, ContractError
from contractheirs.libraries import Library
from contractheirs.runs import breaches, run
from contractheirs.slots import Slot
from tests.naive import plain_breach
from tests.rows import ALWAYS, ASK, BACK, HALT, NEVER, X, asking, attempt, call, following, least, let, most, new, writing

SITE = (None, None, (0, 0))


class Told(unittest.TestCase):
    """What run raises, and what breaches returns."""

    def told(self, library, client, *wanted, tape=(), without=()):
        """Checks the breach that ends a run: its values but earlier."""
        with self.assertRaises(Breach) as caught:
            run(library, client, tape, without=without)
        found = caught.exception
        self.assertIs(type(found), Breach)
        self.assertIsInstance(found, ContractError)
        self.assertEqual(plain_breach(found)[:8], wanted)
        self.assertIs(type(found.numbers), dict)
        self.assertIs(found.__cause__, found.earlier)
        if not without:
            self.assertEqual(plain_breach(breaches(library, client, tape)[-1]), plain_breach(found))
        return found

    def passes(self, library, client, outcome=("returned", 1), tape=(), without=()):
        self.assertEqual(run(library, client, tape, without=without), outcome)


class Entries(Told):

    def test_the_caller_is_to_blame(self):
        library = Library(writing("a", pre=Cond(least("x", 1), most("x", 5))))
        self.passes(library, asking("a", "a", 5))
        slot = Slot("call", "a", "m")
        self.told(library, asking("a", "a", 6), "call", None, "entry", "a", slot, SITE, {"x": 6}, 1)
        self.told(library, asking("a", "a", 0), "call", None, "entry", "a", slot, SITE, {"x": 0}, 0)

    def test_the_first_clause(self):
        library = Library(writing("a", pre=Cond(ALWAYS, most("x", 5), most("x", 4), most("x", 5))))
        self.assertEqual(breaches(library, asking("a", "a", 5), [])[0].clause, 2)
        self.assertEqual(breaches(library, asking("a", "a", 6), [])[0].clause, 1)

    def test_a_heir_is_to_blame(self):
        library = Library(writing("a", pre=Cond(most("x", 9))), writing("b", ("a",), pre=Cond(most("x", 5))))
        slot = Slot("call", "a", "m")
        self.passes(library, asking("b", "a", 5))
        self.told(library, asking("b", "a", 6), "heir", "b", "entry", "b", slot, SITE, {"x": 6}, 0)
        # The owner is asked first.
        self.told(library, asking("b", "a", 10), "call", None, "entry", "a", slot, SITE, {"x": 10}, 0)
        # By another view it is the caller who has to know.
        self.told(library, asking("b", "b", 6), "call", None, "entry", "b", Slot("call", "b", "m"), SITE, {"x": 6}, 0)
        self.passes(library, asking("a", "a", 6))

    def test_what_is_not_of_the_view_is_not_asked(self):
        # A wider precondition of an heir helps nobody who sees the class above, and the other way round.
        library = Library(writing("a", pre=Cond(most("x", 5))), writing("b", ("a",), pre=Cond(most("x", 9))))
        self.passes(library, asking("b", "b", 9))
        self.told(library, asking("b", "a", 9), "call", None, "entry", "a", Slot("call", "a", "m"), SITE, {"x": 9}, 0)

    def test_from_the_owner_to_the_class(self):
        pres = {"a": 9, "b": 3, "c": 5, "d": 4, "e": 2}
        bases = {"a": (), "b": ("a",), "c": ("a",), "d": ("b", "c"), "e": ("d",)}
        library = Library(*[writing(name, bases[name], pre=Cond(most("x", pres[name]))) for name in "edcba"])
        slot = Slot("call", "a", "m")
        for number, blamed in [(10, None), (9, "c"), (6, "c"), (5, "b"), (4, "b"), (3, "e")]:
            of = blamed or "a"
            kind = "heir" if blamed else "call"
            self.told(library, asking("e", "a", number), kind, blamed, "entry", of, slot, SITE, {"x": number}, 0)
        self.passes(library, asking("e", "a", 2))
        # c is not at or below b.
        self.told(library, asking("e", "b", 5), "call", None, "entry", "b", Slot("call", "b", "m"), SITE, {"x": 5}, 0)
        self.told(library, asking("e", "c", 5), "heir", "d", "entry", "d", Slot("call", "c", "m"), SITE, {"x": 5}, 0)

    def test_classes_that_do_not_write(self):
        # d only joins what c writes to what a promises; so d is to blame for it.
        library = Library(
            writing("a", pre=Cond(most("x", 9))), writing("c", pre=Cond(most("x", 5))), ClassDef("d", ("c", "a")),
        )
        slot = Slot("call", "a", "m")
        self.told(library, asking("d", "a", 6), "heir", "d", "entry", "d", slot, SITE, {"x": 6}, 0)
        self.told(library, asking("d", "c", 6), "call", None, "entry", "c", Slot("call", "c", "m"), SITE, {"x": 6}, 0)
        self.told(library, asking("d", "d", 6), "call", None, "entry", "d", Slot("call", "d", "m"), SITE, {"x": 6}, 0)

    def test_a_method_is_to_blame(self):
        body = let("o", new("a"), let("r", call("o", "m", ("y", 3)), BACK))
        calling = ClassDef("k", methods=(Method("go", (("y", "int"),), "int", body=body),))
        library = Library(writing("a", pre=Cond(most("x", 5))), calling)
        client = let("o", new("k"), let("r", call("o", "go", ("", 3)), BACK))
        self.told(library, client, "call", "k", "entry", "a", Slot("call", "a", "m"), ("k", "go", (0,)), {"x": 6}, 0)

    def test_the_writer_is_to_blame_where_an_heir_runs_its_body(self):
        body = let("r", call("self", "n", ("x", 0)), BACK)
        other = Method("n", X, "int", pre=Cond(most("x", 5)), body=BACK)
        first = Method("m", X, "int", body=body)
        library = Library(ClassDef("a", methods=(first, other)), ClassDef("b", ("a",)))
        self.told(library, asking("b", "b", 6), "call", "a", "entry", "a", Slot("call", "a", "n"), ("a", "m", ()),
                  {"x": 6}, 0)

    def test_at_next(self):
        body = let("r", following(("x", 1)), BACK)
        library = Library(
            writing("a", pre=Cond(most("x", 5))), writing("b", ("a",), body=body), writing("c", ("a",), pre=Cond(most("x", 3))),
            ClassDef("d", ("b", "c")),
        )
        slot = Slot("next", "b", "m")
        self.passes(library, asking("b", "b", 4))
        self.told(library, asking("b", "b", 5), "call", "b", "entry", "b", slot, ("b", "m", ()), {"x": 6}, 0)
        # For a d the next one is c, so that d does not keep what b may rely on.
        self.told(library, asking("d", "b", 3), "heir", "d", "entry", "d", slot, ("b", "m", ()), {"x": 4}, 0)
        self.told(library, asking("d", "b", 5), "call", "b", "entry", "b", slot, ("b", "m", ()), {"x": 6}, 0)
        self.passes(library, asking("d", "b", 2))

    def test_numbers(self):
        # p is declared as a low and q as a top; self is an object of a class below the one that writes.
        params = (("x", "int"), ("p", "low"), ("q", "top"))
        library = Library(
            ClassDef("top", fields=("f",)), ClassDef("low", ("top",), fields=("g",)), ClassDef("lower", ("low",), fields=("h",)),
            writing("a", params=params, pre=Cond(least("p.g", 0)), fields=("k",)), ClassDef("b", ("a",), fields=("l",)),
        )
        def client(view):
            return let("p", new("lower", ("", 1), ("", -2), ("", 3)), let("o", new("b", ("", 7), ("", 8)), let(
                "s", ("as", "o", view), let("r", call("s", "m", ("", 9), "p", "p"), BACK))))
        numbers = {"x": 9, "p.f": 1, "p.g": -2, "q.f": 1, "self.k": 7, "self.l": 8}
        for view in "ab":
            slot = Slot("call", view, "m")
            self.told(library, client(view), "call", None, "entry", view, slot, (None, None, (0, 0, 0)), numbers, 0)

    def test_a_new_dict_for_each(self):
        library = Library(writing("a", pre=Cond(NEVER)))
        first = breaches(library, asking("a", "a", 1), [])[0]
        first.numbers.clear()
        self.assertEqual(breaches(library, asking("a", "a", 1), [])[0].numbers, {"x": 1})

    def test_objects_called_back(self):
        # The body of k calls what it was passed, as it is declared.
        body = let("r", call("p", "m", ("x", 0)), BACK)
        taking = ClassDef("k", methods=(Method("go", (("p", "a"), ("x", "int")), "int", body=body),))
        library = Library(writing("a", pre=Cond(most("x", 9))), writing("b", ("a",), pre=Cond(most("x", 5))), taking)
        def client(number):
            return let("o", new("b"), let("k", new("k"), let("r", call("k", "go", "o", ("", number)), BACK)))
        slot = Slot("call", "a", "m")
        self.told(library, client(6), "heir", "b", "entry", "b", slot, ("k", "go", ()), {"x": 6}, 0)
        self.told(library, client(10), "call", "k", "entry", "a", slot, ("k", "go", ()), {"x": 10}, 0)
        self.passes(library, client(5))


class Exits(Told):

    def test_the_body_is_to_blame(self):
        post = Cond(least("result", 0), most("result", 5))
        library = Library(writing("a", post=post, body=("return", ("x", 1))), ClassDef("b", ("a",)))
        site = ("a", "m", ())
        for name in "ab":
            self.passes(library, asking(name, "a", 4), ("returned", 5))
            self.told(library, asking(name, "a", 5), "body", "a", "exit", "a", None, site, {"x": 5, "result": 6}, 1)
            self.told(library, asking(name, "a", -2), "body", "a", "exit", "a", None, site, {"x": -2, "result": -1}, 0)

    def test_the_return_that_was_reached(self):
        body = ("if", ("x", "", 0), ("return", ("x", 0)), ("try", ("return", ("x", 1)), HALT))
        library = Library(writing("a", post=Cond(NEVER), body=body))
        self.assertEqual(breaches(library, asking("a", "a", 0), [])[0].site, ("a", "m", (0,)))
        self.assertEqual(breaches(library, asking("a", "a", 1), [])[0].site, ("a", "m", (1, 0)))

    def test_behind_all_tries_of_the_body(self):
        body = attempt(attempt(("return", ("x", 0)), ("return", ("", 0))), ("return", ("", 0)))
        library = Library(writing("a", post=Cond(most("result", 5)), body=body))
        self.passes(library, asking("a", "a", 5), ("returned", 5))
        self.told(library, asking("a", "a", 6), "body", "a", "exit", "a", None, ("a", "m", (0, 0)), {"x": 6, "result": 6}, 0)
        # A try of the caller catches it.
        inner = let("r", call("o", "m", ("", 6)), HALT)
        client = let("o", new("a"), attempt(inner, ("return", ("", 77))))
        self.passes(library, client, ("returned", 77))
        self.assertEqual(len(breaches(library, client, [])), 1)

    def test_an_heir_is_to_blame(self):
        library = Library(
            writing("a", post=Cond(most("result", 5))), writing("b", ("a",), post=Cond(most("result", 9)), body=("return", ("x", 0))),
        )
        slot = Slot("call", "a", "m")
        self.passes(library, asking("b", "a", 5), ("returned", 5))
        self.told(library, asking("b", "a", 6), "heir", "b", "exit", "a", slot, SITE, {"x": 6, "result": 6}, 0)
        # Seen as a b it promises no more.
        self.passes(library, asking("b", "b", 6), ("returned", 6))
        # The body's own contract comes first.
        self.told(library, asking("b", "a", 10), "body", "b", "exit", "b", None, ("b", "m", ()), {"x": 10, "result": 10}, 0)

    def test_the_last_heir_ahead_is_to_blame(self):
        bases = {"a": (), "b": ("a",), "c": ("b",), "d": ("c",)}
        posts = {"a": 2, "b": 3, "c": 9, "d": 9}
        library = Library(*[writing(name, bases[name], post=Cond(most("result", posts[name])), body=("return", ("x", 0)))
                            for name in "abcd"])
        slot = Slot("call", "a", "m")
        for name in "cd":
            # From the first class to the last one: b is asked ahead of a, and c is to blame for it.
            self.told(library, asking(name, "a", 4), "heir", "c", "exit", "b", slot, SITE, {"x": 4, "result": 4}, 0)
            self.told(library, asking(name, "a", 3), "heir", "b", "exit", "a", slot, SITE, {"x": 3, "result": 3}, 0)
        self.told(library, asking("d", "b", 4), "heir", "c", "exit", "b", Slot("call", "b", "m"), SITE, {"x": 4, "result": 4}, 0)
        self.passes(library, asking("d", "b", 3), ("returned", 3))

    def test_in_a_diamond(self):
        def diamond(**posts):
            bases = {"a": (), "b": ("a",), "c": ("a",), "d": ("b", "c"), "e": ("d",)}
            return Library(*[writing(name, bases[name], post=Cond(most("result", posts.get(name, 9))), body=("return", ("x", 0)))
                             for name in "abcde"])
        slot = Slot("call", "a", "m")
        numbers = {"x": 6, "result": 6}
        # b and c do not know each other: for c it is d who joined them.
        self.told(diamond(c=5), asking("e", "a", 6), "heir", "d", "exit", "c", slot, SITE, numbers, 0)
        self.told(diamond(b=5), asking("e", "a", 6), "heir", "d", "exit", "b", slot, SITE, numbers, 0)
        self.told(diamond(b=5, c=5), asking("e", "a", 6), "heir", "d", "exit", "b", slot, SITE, numbers, 0)
        self.told(diamond(a=5), asking("e", "a", 6), "heir", "c", "exit", "a", slot, SITE, numbers, 0)
        self.told(diamond(d=5), asking("e", "a", 6), "heir", "e", "exit", "d", slot, SITE, numbers, 0)
        self.told(diamond(e=5), asking("e", "a", 6), "body", "e", "exit", "e", None, ("e", "m", ()), numbers, 0)
        self.passes(diamond(c=5), asking("e", "b", 6), ("returned", 6))

    def test_at_next(self):
        body = let("r", following(("x", 0)), ("return", ("r", 0)))
        library = Library(
            writing("a", post=Cond(most("result", 5)), body=("return", ("", 5))), writing("b", ("a",), body=body),
            writing("c", ("a",), body=("return", ("", 7))), ClassDef("d", ("b", "c")), ClassDef("e", ("d",)),
        )
        # c breaks what a promised to b, but it is d who put c behind b.
        self.told(library, asking("e", "b", 0), "heir", "d", "exit", "b", Slot("next", "b", "m"), ("b", "m", ()),
                  {"x": 0, "result": 7}, 0)
        self.passes(library, asking("b", "a", 0), ("returned", 5))

    def test_a_try_of_the_caller_catches_it(self):
        library = Library(
            writing("a", post=Cond(most("result", 5))), writing("b", ("a",), body=("return", ("x", 0))),
        )
        inner = let("r", call("t", "m", ("", 6)), ("return", ("r", 0)))
        client = let("o", new("b"), let("t", ("as", "o", "a"), attempt(inner, ("return", ("", 77)))))
        self.passes(library, client, ("returned", 77))

    def test_object_results(self):
        library = Library(
            ClassDef("top", fields=("f",)), ClassDef("low", ("top",), fields=("g",)),
            writing("a", result="top", post=Cond(most("result.f", 5)), fields=("k",), body=let(
                "o", new("low", ("x", 0), ("", 2)), ("return", "o"))),
            writing("b", ("a",), result="top", fields=("l",), body=let("o", new("low", ("x", 0), ("", 2)), ("return", "o"))),
        )
        def client(name, *values):
            return let("o", new(name, *values), let("t", ("as", "o", "a"), let("r", call("t", "m", ("", 6)), BACK)))
        self.told(library, client("a", ("", 7)), "body", "a", "exit", "a", None, ("a", "m", (0,)),
                  {"x": 6, "self.k": 7, "result.f": 6}, 0)
        self.told(library, client("b", ("", 7), ("", 8)), "heir", "b", "exit", "a", Slot("call", "a", "m"), SITE,
                  {"x": 6, "self.k": 7, "self.l": 8, "result.f": 6}, 0)

    def test_a_condition_of_the_call_still_holds_behind_it(self):
        # Fields never change, so a postcondition may ask those of the parameters.
        params = (("p", "top"),)
        library = Library(ClassDef("top", fields=("f",)), writing(
            "a", params=params, post=Cond((("result", "p.f", 0),)), body=("return", ("p.f", 1))))
        client = let("p", new("top", ("", 4)), let("o", new("a"), let("r", call("o", "m", "p"), BACK)))
        self.told(library, client, "body", "a", "exit", "a", None, ("a", "m", ()), {"p.f": 4, "result": 5}, 0)


class News(Told):

    def test_the_clauses_by_their_index(self):
        library = Library(
            ClassDef("a", fields=("f",), where=Cond(least("self.f", 0), most("self.f", 9))),
            ClassDef("b", ("a",), fields=("g",), where=Cond((("self.g", "self.f", 0),))),
        )
        def client(*values):
            return let("v", ASK, let("o", new("b", *values), BACK))
        for f, g, clause in [(-1, 0, 0), (10, 0, 1), (3, 4, 2), (10, 11, 1)]:
            self.told(library, client(("", f), ("", g)), "new", None, "entry", "b", None, (None, None, (0,)),
                      {"self.f": f, "self.g": g}, clause, tape=[1])
        self.passes(library, client(("", 9), ("v", 8)), tape=[1])

    def test_a_method_is_to_blame(self):
        library = Library(
            ClassDef("bad", fields=("f",), where=Cond(most("self.f", 5))),
            writing("a", body=("if", ("", "", 0), let("o", new("bad", ("x", 1)), BACK), HALT)), ClassDef("b", ("a",)),
        )
        self.told(library, asking("b", "a", 5), "new", "a", "entry", "bad", None, ("a", "m", (0,)), {"self.f": 6}, 0)
        self.passes(library, asking("b", "a", 4))

    def test_the_wheres_are_asked_before_anything_is_done(self):
        library = Library(ClassDef("bad", where=Cond(NEVER)))
        client = attempt(let("o", new("bad"), HALT), ("return", ("", 77)))
        self.passes(library, client, ("returned", 77))


class Tries(Told):
    """Tries within one another, and the breach that is current."""

    def setUp(self):
        # m breaches at its entry if x is above 9; n asks m within tries.
        fail = let("r", call("self", "m", ("x", 10)), BACK)
        self.ask_m = lambda number, rest=BACK: let("f" + chr(97 + number), call("o", "m", ("", 10 + number)), rest)
        inner = attempt(fail, let("s", call("self", "m", ("x", 20)), BACK))
        self.library = Library(ClassDef("a", methods=(
            Method("m", X, "int", pre=Cond(most("x", 9)), body=BACK),
            Method("n", X, "int", body=attempt(fail, ("return", ("x", 0)))),
            Method("k", X, "int", body=inner),
        )))

    def client(self, rest):
        return let("o", new("a"), rest)

    def found(self, rest):
        """The x of each breach, with those of the ones that are earlier."""
        rows = []
        for breach in breaches(self.library, self.client(rest), []):
            self.assertIs(breach.__cause__, breach.earlier)
            trail = []
            while breach is not None:
                trail.append(breach.numbers["x"])
                breach = breach.earlier
            rows.append(trail)
        return rows

    def test_none_earlier(self):
        self.assertEqual(self.found(self.ask_m(0)), [[10]])
        self.assertEqual(self.found(attempt(self.ask_m(0), BACK)), [[10]])

    def test_within_the_second_part(self):
        self.assertEqual(self.found(attempt(self.ask_m(0), self.ask_m(1))), [[10], [11, 10]])

    def test_the_same_objects(self):
        first, second = breaches(self.library, self.client(attempt(self.ask_m(0), self.ask_m(1))), [])
        self.assertIs(second.earlier, first)
        self.assertIs(second.__cause__, first)
        self.assertIs(first.__cause__, None)

    def test_second_parts_within_one_another(self):
        inner = attempt(self.ask_m(1), self.ask_m(2))
        self.assertEqual(self.found(attempt(self.ask_m(0), inner)), [[10], [11, 10], [12, 11, 10]])

    def test_the_inner_second_part_breaches_into_the_outer_one(self):
        inner = attempt(self.ask_m(0), self.ask_m(1))
        self.assertEqual(self.found(attempt(inner, self.ask_m(2))), [[10], [11, 10], [12, 11, 10]])

    def test_in_calls_of_the_second_part(self):
        asks = let("r", call("o", "k", ("", 100)), BACK)
        self.assertEqual(self.found(attempt(self.ask_m(0), asks)), [[10], [110, 10], [120, 110, 10]])

    def test_set_back_when_the_second_part_ends(self):
        # n catches a breach of its own and returns: behind it there is no current one any more.
        asks = let("r", call("o", "n", ("", 100)), self.ask_m(3))
        self.assertEqual(self.found(asks), [[110], [13]])
        # The same within a second part: the one that was current is current again.
        self.assertEqual(self.found(attempt(self.ask_m(0), asks)), [[10], [110, 10], [13, 10]])

    def test_left_by_a_breach(self):
        # k breaches within its second part; the client catches that, and it is current only there.
        caught = attempt(let("r", call("o", "k", ("", 100)), BACK), self.ask_m(4))
        self.assertEqual(self.found(caught), [[110], [120, 110], [14, 120, 110]])

    def test_a_return_ends_the_part_ahead_of_the_check(self):
        fail = let("o", new("bad"), BACK)
        never = Cond(NEVER)
        library = Library(ClassDef("bad", where=never), writing("a", post=never, body=attempt(fail, ("return", ("x", 0)))))
        first, second = breaches(library, asking("a", "a", 1), [])
        self.assertEqual((first.kind, second.kind), ("new", "body"))
        self.assertIs(second.earlier, None)
        client = attempt(let("b", new("bad"), BACK), asking("a", "a", 1))
        first, second, third = breaches(library, client, [])
        self.assertEqual((first.earlier, second.earlier, third.earlier), (None, first, first))

    def test_heirs_at_exits_within_the_second_part(self):
        library = Library(ClassDef("bad", where=Cond(NEVER)), writing("a", post=Cond(NEVER)), writing("b", ("a",)))
        client = attempt(let("x", new("bad"), BACK), asking("b", "a", 1))
        first, second = breaches(library, client, [])
        self.assertEqual((second.kind, second.side), ("heir", "exit"))
        self.assertIs(second.earlier, first)

    def test_raised_with_its_cause(self):
        with self.assertRaises(Breach) as caught:
            run(self.library, self.client(attempt(self.ask_m(0), self.ask_m(1))), [])
        self.assertEqual(caught.exception.numbers, {"x": 11})
        self.assertEqual(caught.exception.earlier.numbers, {"x": 10})
        self.assertIs(caught.exception.__cause__, caught.exception.earlier)

    def test_only_the_innermost_try_catches(self):
        client = attempt(attempt(self.ask_m(0), ("return", ("", 5))), HALT)
        self.passes(self.library, self.client(client), ("returned", 5))
        client = attempt(attempt(self.ask_m(0), self.ask_m(1)), ("return", ("", 6)))
        self.passes(self.library, self.client(client), ("returned", 6))


class Without(Told):
    """Each kind of check that is left out; any other one is not."""

    def setUp(self):
        body = let("o", new("bad"), let("r", following(("x", 0)), ("return", ("r", 0))))
        never = Cond(NEVER)
        # All that can fail at a call of m on a c, seen as an a, and at the next of its body.
        self.library = Library(
            ClassDef("bad", where=Cond(NEVER)), writing("a", pre=never, post=never), writing("b", ("a",), pre=never, post=never),
            writing("c", ("b",), pre=never, post=never, body=body),
        )
        self.slot = Slot("call", "a", "m")
        following_slot = Slot("next", "c", "m")
        site = ("c", "m", (0,))
        self.checks = [
            CallCheck(SITE), HeirEntry("b", self.slot), HeirEntry("c", self.slot), NewCheck(("c", "m", ())), CallCheck(site),
            BodyCheck(("b", "m", ())), BodyCheck(("c", "m", (0, 0))), HeirExit("c", self.slot, "b"),
            HeirExit("b", self.slot, "a"),
        ]
        self.following_slot = following_slot

    def test_one_after_the_other(self):
        kinds = ["call", "heir", "heir", "new", "call", "body", "body", "heir", "heir"]
        client = asking("c", "a", 4)
        for many, kind in enumerate(kinds):
            with self.assertRaises(Breach) as caught:
                run(self.library, client, [], without=self.checks[:many])
            self.assertEqual(caught.exception.kind, kind)
        self.passes(self.library, client, ("returned", 1), without=self.checks)
        self.passes(self.library, client, ("returned", 1), without=tuple(self.checks[::-1] * 2))

    def test_all_but_one(self):
        client = asking("c", "a", 4)
        for one in self.checks:
            with self.assertRaises(Breach):
                run(self.library, client, [], without=[each for each in self.checks if each != one])

    def test_others_mean_nothing(self):
        client = asking("c", "a", 4)
        slot = self.slot
        others = {
            0: [CallCheck((None, None, (0,))), CallCheck(("c", "m", (0, 0))), NewCheck(SITE), BodyCheck(SITE), CallCheck(SITE[2]),
                HeirEntry("a", slot), CallCheck(list(SITE))],
            1: [HeirEntry("b", Slot("call", "b", "m")), HeirExit("b", slot, "a"), HeirEntry("b", Slot("next", "a", "m"))],
            3: [NewCheck(("c", "m", (0,))), NewCheck((None, None, ())), CallCheck(("c", "m", ()))],
            5: [BodyCheck(("b", "m", (0,))), BodyCheck(("a", "m", ())), CallCheck(("b", "m", ())), NewCheck(("b", "m", ()))],
            7: [HeirExit("c", slot, "a"), HeirExit("b", slot, "b"), HeirExit("c", self.following_slot, "b"), HeirEntry("c", slot)],
            8: [HeirExit("c", slot, "a"), HeirExit("b", slot, "b"), HeirExit("b", Slot("call", "b", "m"), "a")],
        }
        for many, row in others.items():
            with self.assertRaises(Breach) as caught:
                run(self.library, client, [], without=self.checks[:many] + row)
            with self.assertRaises(Breach) as again:
                run(self.library, client, [], without=self.checks[:many])
            self.assertEqual(plain_breach(caught.exception), plain_breach(again.exception))

    def test_at_next(self):
        body = let("r", following(("x", 0)), ("return", ("r", 0)))
        never = Cond(NEVER)
        library = Library(
            writing("a"), writing("b", ("a",), body=body), writing("c", ("a",), pre=never, post=never), ClassDef("d", ("b", "c")),
            ClassDef("k", ("a",)),
        )
        slot = Slot("next", "b", "m")
        with self.assertRaises(Breach) as caught:
            run(library, asking("d", "b", 0), [])
        self.assertEqual((caught.exception.blamed, caught.exception.slot), ("d", slot))
        with self.assertRaises(Breach) as caught:
            run(library, asking("d", "b", 0), [], without=[HeirEntry("d", slot)])
        self.assertEqual((caught.exception.kind, caught.exception.blamed), ("body", "c"))
        self.passes(library, asking("d", "b", 0), without=[HeirEntry("d", slot), BodyCheck(("c", "m", ()))])

    def test_breaches_tells_all(self):
        client = attempt(asking("c", "a", 4), attempt(asking("b", "b", 5), asking("b", "b", 6)))
        found = breaches(self.library, client, [])
        self.assertEqual([(one.numbers["x"], one.of) for one in found], [(4, "a"), (5, "b"), (6, "b")])


if __name__ == "__main__":
    unittest.main()
