"""[0.3], [6.1]: run and breaches: statements and expressions, errors in their order, steps, open calls, halts."""

import unittest

from contractheirs.checks import BodyCheck, CallCheck, Check, HeirEntry, HeirExit, NewCheck
from contractheirs.classes import ClassDef, Method
from contractheirs.conditions import Cond
from contractheirs.errors import BadBody, Breach, ContractError, NoChecks, NoSteps, NoTape, TooDeep, TooLong
from contractheirs.libraries import Library
from contractheirs.runs import breaches, run
from contractheirs.slots import Slot
from tests.rows import ASK, BACK, HALT, X, attempt, call, following, let, lets, method, new, when
from tests.support import GREAT, things

NOTHING = Library()


def objects(**bodies):
    """Classes with methods that make objects, pass them and ask them."""
    def body(key, otherwise):
        return bodies.get(key, otherwise)
    return Library(
        ClassDef("top", fields=("f",), methods=(
            method("get", (), "int", body("get", ("return", ("self.f", 0)))),
            method("put", X, "top", body("put", let("o", new("top", ("x", 0)), ("return", "o")))),
            method("same", (("p", "top"),), "top", body("same", ("return", "p"))),
        )),
        ClassDef("low", ("top",), fields=("g",), methods=(
            method("get", (), "int", body("low", let("r", following(), ("return", ("r", 100))))),
            method("both", (("p", "top"), ("x", "int"), ("q", "low")), "int", body("both", ("return", ("q.g", 0)))),
        )),
    )


class Statements(unittest.TestCase):

    def ends(self, outcome, client, tape=(), library=NOTHING):
        for kind in (tuple, list):
            self.assertEqual(run(library, client, kind(tape)), outcome)
            self.assertEqual(breaches(library, client, kind(tape)), [])

    def test_return(self):
        self.ends(("returned", 1), BACK)
        self.ends(("returned", -GREAT), ("return", ("", -GREAT)))
        self.ends(("returned", 0), ("return", ("", 0)))

    def test_int(self):
        self.ends(("returned", 9), let("v", ("int", "", 4), let("w", ("int", "v", 3), ("return", ("w", 2)))))
        self.ends(("returned", -GREAT - 1), let("v", ("int", "", -GREAT), ("return", ("v", -1))))

    def test_ask(self):
        client = let("v", ASK, let("w", ASK, ("return", ("w", 10))))
        self.ends(("returned", 12), client, [1, 2])
        self.ends(("returned", 12), client, [1, 2, 3])
        self.ends(("halted",), client, [1])
        self.ends(("halted",), client)
        self.ends(("returned", 1), let("v", ASK, let("w", ASK, ("return", ("v", 0)))), [1, 2])

    def test_if(self):
        for number in (-1, 0, 1, 2):
            client = let("v", ASK, when(("return", ("", 7)), ("return", ("", 8)), ("v", "", 1)))
            self.ends(("returned", 7 if number <= 1 else 8), client, [number])
            client = let("v", ASK, when(("return", ("", 7)), ("return", ("", 8)), ("", "v", -1)))
            self.ends(("returned", 7 if 0 <= number - 1 else 8), client, [number])
            client = let("v", ASK, let("w", ASK, when(("return", ("v", 0)), ("return", ("w", 0)), ("v", "w", 0))))
            self.ends(("returned", min(number, 1)), client, [number, 1])
        self.ends(("returned", 3), when(("return", ("", 3)), HALT, ("", "", 0)))
        self.ends(("halted",), when(("return", ("", 3)), HALT, ("", "", -1)))

    def test_halt(self):
        self.ends(("halted",), HALT)
        self.ends(("halted",), attempt(HALT, BACK))

    def test_try_without_a_breach(self):
        self.ends(("returned", 1), attempt())
        self.ends(("returned", 1), attempt(attempt(), HALT))
        self.ends(("returned", 5), let("v", ASK, attempt(("return", ("v", 0)), HALT)), [5])

    def test_objects(self):
        library = objects()
        made = lambda rest: let("o", new("low", ("", 5), ("", 6)), rest)
        self.ends(("returned", 5), made(("return", ("o.f", 0))), (), library)
        self.ends(("returned", 7), made(("return", ("o.g", 1))), (), library)
        self.ends(("returned", 6), made(let("p", ("as", "o", "top"), ("return", ("p.g", 0)))), (), library)
        got = let("r", call("o", "get"), ("return", ("r", 0)))
        self.ends(("returned", 105), made(got), (), library)
        self.ends(("returned", 105), made(let("t", ("as", "o", "top"), let("r", call("t", "get"), ("return", ("r", 0))))), (),
                  library)
        self.ends(("returned", 5), let("o", new("top", ("", 5)), got), (), library)

    def test_objects_are_passed_and_returned(self):
        library = objects()
        client = let("o", new("low", ("", 5), ("", 6)), let("s", call("o", "same", "o"), let(
            "r", call("s", "get"), ("return", ("r", 0)))))
        # What comes back is seen as a top, but it is a low.
        self.ends(("returned", 105), client, (), library)
        client = let("o", new("top", ("", 5)), let("s", call("o", "put", ("o.f", 3)), ("return", ("s.f", 0))))
        self.ends(("returned", 8), client, (), library)
        client = let("o", new("low", ("", 5), ("", 6)), let("t", new("top", ("", 2)), let(
            "r", call("o", "both", "t", ("t.f", 9), "o"), ("return", ("r", 0)))))
        for body, number in [(("return", ("p.f", 0)), 2), (("return", ("x", 0)), 11), (("return", ("q.f", 0)), 5),
                             (("return", ("self.g", 0)), 6), (let("r", call("p", "get"), ("return", ("r", 0))), 2),
                             (let("r", call("q", "get"), ("return", ("r", 0))), 105),
                             (let("t", ("as", "q", "top"), let("r", call("t", "get"), ("return", ("r", 1)))), 106)]:
            self.ends(("returned", number), client, (), objects(both=body))

    def test_self(self):
        library = objects(same=let("r", call("self", "get"), let("o", new("top", ("r", 0)), ("return", "o"))))
        client = let("o", new("low", ("", 5), ("", 6)), let("s", call("o", "same", "o"), ("return", ("s.f", 0))))
        self.ends(("returned", 105), client, (), library)
        library = objects(same=("return", "self"))
        client = let("o", new("low", ("", 5), ("", 6)), let("t", new("top", ("", 1)), let(
            "s", call("o", "same", "t"), ("return", ("s.f", 0)))))
        self.ends(("returned", 5), client, (), library)

    def test_next_follows_the_order_of_the_object(self):
        def adding(name, bases, number):
            body = let("r", following(("x", number)), ("return", ("r", 0))) if bases else ("return", ("x", number))
            return ClassDef(name, bases, methods=(method("m", X, "int", body),))
        library = Library(adding("a", (), 1), adding("b", ("a",), 10), adding("c", ("a",), 100), adding("d", ("b", "c"), 1000))
        for name, number in [("a", 1), ("b", 11), ("c", 101), ("d", 1111)]:
            client = let("o", new(name), let("t", ("as", "o", "a"), let("r", call("t", "m", ("", 0)), ("return", ("r", 0)))))
            self.ends(("returned", number), client, (), library)

    def test_a_halt_and_a_used_up_tape_end_all(self):
        for body in (HALT, attempt(HALT, BACK), let("v", ASK, BACK), attempt(let("v", ASK, BACK), BACK)):
            client = let("o", new("top", ("", 1)), attempt(let("r", call("o", "get"), BACK), BACK))
            self.ends(("halted",), client, (), objects(get=body))

    def test_a_name_in_both_parts(self):
        library = Library(ClassDef("bad", fields=("f",), where=Cond((("self.f", "", -1),))))
        first = let("v", ("int", "", 3), let("w", new("bad", ("v", 0)), BACK))
        self.assertEqual(run(library, attempt(first, let("v", ("int", "", 4), ("return", ("v", 0)))), []), ("returned", 4))

    def test_the_tape_stays(self):
        tape = [1, 2, 3]
        run(NOTHING, let("v", ASK, let("w", ASK, BACK)), tape)
        breaches(NOTHING, let("v", ASK, let("w", ASK, BACK)), tape)
        self.assertEqual(tape, [1, 2, 3])

    def test_a_new_list(self):
        found = breaches(NOTHING, BACK, [])
        self.assertIs(type(found), list)
        found.append(1)
        self.assertEqual(breaches(NOTHING, BACK, []), [])


class Errors(unittest.TestCase):

    def refused(self, error, key, value, *arguments, **more):
        for ask in (run, breaches) if "without" not in more else (run,):
            with self.assertRaises(error) as caught:
                ask(*arguments, **more)
            self.assertIs(getattr(caught.exception, key), value)
            self.assertIsInstance(caught.exception, ContractError)

    def test_bad_body(self):
        with self.assertRaises(BadBody) as caught:
            run(NOTHING, let("v", ASK, ("return", ("w", 0))), None, steps=0, without=0)
        self.assertEqual((caught.exception.at, caught.exception.why), ((0,), "term"))
        with self.assertRaises(BadBody) as caught:
            breaches(NOTHING, None, None, steps=0)
        self.assertEqual((caught.exception.at, caught.exception.why), ((), "form"))
        for thing in things() + [[], {}, ("return",)]:
            with self.assertRaises(BadBody):
                run(NOTHING, thing, [])

    def test_no_tape(self):
        for tape in things() + [[None], ["1"], [1, True], (False,), [1, [2]], [2j], {1: 2}, {1}, "1", [Cond()], (1, ())]:
            if tape != ():
                self.refused(NoTape, "tape", tape, NOTHING, BACK, tape, steps=0)
                self.refused(NoTape, "tape", tape, NOTHING, BACK, tape, steps=0, without=0)

    def test_no_steps(self):
        for steps in things() + [[], [1], 0, -1, 2001, GREAT, "5", True, None]:
            if steps not in (1,) or steps is True:
                self.refused(NoSteps, "steps", steps, NOTHING, BACK, [], steps=steps)
                self.refused(NoSteps, "steps", steps, NOTHING, BACK, [], steps=steps, without=0)
        for steps in (1, 2, 1999, 2000):
            self.assertEqual(run(NOTHING, BACK, [], steps=steps), ("returned", 1))
            self.assertEqual(breaches(NOTHING, BACK, [], steps=steps), [])

    def test_no_checks(self):
        for without in things() + [[None], [1], [[]], ["check"], [NewCheck(1), None], {NewCheck: 1}, (Check,), [NewCheck]]:
            if without != ():
                self.refused(NoChecks, "without", without, NOTHING, BACK, [], without=without)

    def test_checks_of_anything(self):
        odd = [[], {}, None, 5, ("a", "m", ()), Slot("next", [], {}), Cond(), range(3)]
        checks = [kind(thing) for kind in (CallCheck, NewCheck, BodyCheck) for thing in odd]
        checks += [HeirEntry(one, other) for one in odd for other in odd] + [HeirExit(one, one, one) for one in odd]
        for without in (checks, tuple(checks), []):
            self.assertEqual(run(NOTHING, BACK, [], without=without), ("returned", 1))
        library = Library(ClassDef("bad", where=Cond((("", "", -1),))))
        with self.assertRaises(Breach):
            run(library, let("o", new("bad"), BACK), [], without=checks)

    def test_by_name(self):
        for ask in (run, breaches):
            with self.assertRaises(TypeError):
                ask(NOTHING, BACK, [], 500)
        with self.assertRaises(TypeError):
            breaches(NOTHING, BACK, [], without=())


class Steps(unittest.TestCase):

    def needs(self, many, client, tape=(), library=NOTHING):
        """Just so many steps are enough."""
        for ask in (run, breaches):
            ask(library, client, tape, steps=many)
            if many > 1:
                with self.assertRaises(TooLong):
                    ask(library, client, tape, steps=many - 1)

    def test_each_statement_is_a_step(self):
        self.needs(1, BACK)
        self.needs(1, HALT)
        self.needs(2, let("v", ASK, BACK), [1])
        self.needs(1, let("v", ASK, BACK), [])
        self.needs(2, let("v", ("int", "", 1), HALT))
        self.needs(2, when())
        self.needs(2, when(literal=("", "", -1)))
        self.needs(2, attempt())
        self.needs(3, attempt(attempt()))
        self.needs(38, lets(37), [1] * 37)

    def test_steps_of_bodies(self):
        library = objects()
        # new, call, (let, return,) ahead of the return: low's get asks that of top.
        client = let("o", new("low", ("", 5), ("", 6)), let("r", call("o", "get"), BACK))
        self.needs(6, client, (), library)
        self.needs(4, let("o", new("top", ("", 5)), let("r", call("o", "get"), BACK)), (), library)
        self.needs(4, let("o", new("top", ("", 5)), let("t", ("as", "o", "top"), let("u", ("int", "t.f", 0), BACK))), (),
                   library)

    def test_steps_behind_a_breach(self):
        library = Library(ClassDef("bad", where=Cond((("", "", -1),))))
        self.needs(3, attempt(let("o", new("bad"), BACK), BACK), (), library)
        with self.assertRaises(Breach):
            run(library, let("o", new("bad"), BACK), [], steps=1)
        self.assertEqual(len(breaches(library, let("o", new("bad"), BACK), [], steps=1)), 1)

    def test_five_hundred_steps_without_asking(self):
        names = [a + b for a in "bcde" for b in "bcdefgh"]
        rows = []
        for k, name in enumerate(names[:14]):
            body = lets(35, let("r", following(("x", 0)), BACK) if k else BACK, ("int", "", 1), "w")
            rows.append(ClassDef(name, (names[k - 1],) if k else (), methods=(method("m", X, "int", body),)))
        library = Library(*rows)
        # new, call, return; 37 for each class but the first, which takes 36.
        client = let("o", new(names[13]), let("r", call("o", "m", ("", 1)), BACK))
        self.needs(3 + 13 * 37 + 36, client, (), library)
        with self.assertRaises(TooLong):
            run(library, client, [])
        with self.assertRaises(TooLong):
            breaches(library, client, [])
        client = let("o", new(names[12]), let("r", call("o", "m", ("", 1)), BACK))
        self.needs(483, client, (), library)
        for most, error in [(17, None), (18, TooLong)]:
            padded = lets(most, client, ("int", "", 1))
            if error is None:
                self.assertEqual(run(library, padded, []), ("returned", 1))
            else:
                self.assertRaises(error, run, library, padded, [])

    def test_try_does_not_catch_too_long(self):
        body = attempt(let("r", call("self", "m", ("x", 0)), BACK), BACK)
        library = Library(ClassDef("a", methods=(method("m", X, "int", body),)))
        client = let("o", new("a"), attempt(let("r", call("o", "m", ("", 1)), BACK), BACK))
        for ask in (run, breaches):
            with self.assertRaises(TooLong):
                ask(library, client, [], steps=50)
            with self.assertRaises(TooDeep):
                ask(library, client, [], steps=2000)


class Depth(unittest.TestCase):
    """A chain of classes, in which each body asks the next one and the last one calls back."""

    def chain(self, many, last=BACK, pre=None):
        names = [a + b for a in "bcde" for b in "bcdefgh"]
        rows = []
        for k, name in enumerate(names[:many]):
            body = let("r", following(("x", 0)), ("return", ("r", 0))) if k else last
            made = Method("m", X, "int", pre=pre if k == 0 else None, body=body)
            rows.append(ClassDef(name, (names[k - 1],) if k else (), methods=(made,)))
        return rows, names[many - 1]

    def client(self, name):
        return let("o", new(name), attempt(let("r", call("o", "m", ("", 0)), ("return", ("r", 0))), HALT))

    def test_forty_open_calls(self):
        # Each round through 20 classes is 20 open calls; x tells how many rounds are left.
        def last(rounds):
            again = let("y", ("int", "x", 1), let("r", call("self", "m", ("y", 0)), ("return", ("r", 0))))
            return when(("return", ("x", 0)), again, ("", "x", -rounds))
        rows, name = self.chain(20, last(1))
        library = Library(*rows)
        self.assertEqual(run(library, self.client(name), []), ("returned", 1))
        self.assertEqual(breaches(library, self.client(name), []), [])
        for many, rounds in [(20, 2), (21, 1), (14, 2), (1, 40)]:
            rows, name = self.chain(many, last(rounds))
            library = Library(*rows)
            for ask in (run, breaches):
                with self.assertRaises(TooDeep):
                    ask(library, self.client(name), [], steps=2000)
        rows, name = self.chain(1, last(39))
        self.assertEqual(run(Library(*rows), self.client(name), []), ("returned", 39))

    def test_ahead_of_the_checks(self):
        # The 41st call would breach; it is told only as too deep.
        again = let("y", ("int", "x", 1), let("r", call("self", "m", ("y", 0)), BACK))
        for most, error in [(38, Breach), (39, Breach), (40, TooDeep), (41, TooDeep)]:
            made = Method("m", X, "int", pre=Cond((("x", "", most - 1),)), body=again)
            library = Library(ClassDef("a", methods=(made,)))
            client = let("o", new("a"), let("r", call("o", "m", ("", 0)), BACK))
            with self.assertRaises(error):
                run(library, client, [], steps=2000)

    def test_at_next(self):
        rows, name = self.chain(20, let("r", call("self", "m", ("x", 0)), BACK), Cond((("x", "", 5),)))
        with self.assertRaises(TooDeep):
            run(Library(*rows), self.client(name), [], steps=2000)

    def test_closed_calls_do_not_count(self):
        # 15 times four calls one behind the other.
        body = let("r", following(("x", 0)), let("s", following(("r", 0)), ("return", ("s", 0))))
        rows = [ClassDef("a", methods=(method("m", X, "int", ("return", ("x", 1))),))]
        for name, above in ["ba", "cb", "dc", "ed", "fe"]:
            rows.append(ClassDef(name, (above,), methods=(method("m", X, "int", body),)))
        client = let("o", new("f"), let("r", call("o", "m", ("", 0)), ("return", ("r", 0))))
        self.assertEqual(run(Library(*rows), client, []), ("returned", 32))

    def test_calls_that_breached_are_open_no_more(self):
        made = Method("m", X, "int", post=Cond((("", "", -1),)), body=BACK)
        rows = [ClassDef("a", methods=(made, method("k", X, "int", self.tries())))]
        again = let("r", call("o", "k", ("", 1)), let("s", call("o", "k", ("", 1)), let("t", call("o", "k", ("", 1)), BACK)))
        library = Library(*rows)
        self.assertEqual(run(library, let("o", new("a"), again), []), ("returned", 1))
        self.assertEqual(len(breaches(library, let("o", new("a"), again), [])), 9)

    def tries(self):
        """Two breaches that are caught, one within the other, and one more."""
        fail = let("r", call("self", "m", ("x", 0)), BACK)
        return attempt(attempt(fail, let("s", call("self", "m", ("x", 0)), BACK)),
                       attempt(let("t", call("self", "m", ("x", 0)), BACK), BACK))


if __name__ == "__main__":
    unittest.main()
