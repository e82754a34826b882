"""[7.1] to [7.3]: which duties there are, their facts and claims, and whether they are kept."""

import random
import unittest

from contractheirs.cases import closes, negated
from contractheirs.checks import BodyCheck, CallCheck, HeirEntry, HeirExit, NewCheck
from contractheirs.classes import ClassDef, Method
from contractheirs.conditions import Cond
from contractheirs.duties import all_kept, duties, duty_claims, duty_facts, verdict
from contractheirs.errors import BadLibrary, NoDuty
from contractheirs.libraries import Library
from contractheirs.slots import Slot
from tests import randoms
from tests.naive import answering, line, method_of
from tests.rows import ALWAYS, HALT, NEVER, X, least, method, most, writing
from tests.support import GREAT, hold, terms_of, things


def plain(duty):
    """A duty as a row: its class, the heir, the slot and the class above."""
    slot = (duty.slot.word, duty.slot.owner, duty.slot.method)
    return (type(duty).__name__[4:], duty.heir, slot) + ((duty.above,) if isinstance(duty, HeirExit) else ())


def naive_duties(library):
    """The duties as the document tells them."""
    slots = []
    for name in library.names:
        for method in library.methods_of(name):
            slots.append(Slot("call", name, method))
            behind = library.order_of(name)[1:]
            if method_of(library, name, method) and any(method_of(library, each, method) for each in behind):
                slots.append(Slot("next", name, method))
    slots.sort(key=lambda slot: (slot.word, slot.owner, slot.method))
    found = []
    for heir in library.names:
        for slot in slots:
            if slot.owner in library.order_of(heir)[1:]:
                found.append(HeirEntry(heir, slot))
                row = line(library, slot, heir)
                for above in sorted(row):
                    ahead = row[:row.index(above)]
                    if above != heir and not [one for one in ahead if one != heir and above in library.order_of(one)]:
                        found.append(HeirExit(heir, slot, above))
    return found


def chain(*pairs, bodies=HALT):
    """Classes one below the other, each with a pair of a precondition and a postcondition for m; None is not written."""
    rows = []
    for name, pair in zip("abcdefgh", pairs):
        above = (rows[-1].name,) if rows else ()
        rows.append(ClassDef(name, above) if pair is None else writing(name, above, *pair, body=bodies))
    return Library(*rows)


class Listed(unittest.TestCase):

    def test_two_classes(self):
        library = chain((Cond(), Cond()), (Cond(), Cond()))
        self.assertEqual([plain(duty) for duty in duties(library)], [
            ("Entry", "b", ("call", "a", "m")), ("Exit", "b", ("call", "a", "m"), "a"),
        ])
        self.assertEqual(list(duties(chain((Cond(), Cond())))), [])
        self.assertEqual(list(duties(Library())), [])

    def test_a_class_that_does_not_write(self):
        library = chain((Cond(), Cond()), None)
        self.assertEqual([plain(duty) for duty in duties(library)], [
            ("Entry", "b", ("call", "a", "m")), ("Exit", "b", ("call", "a", "m"), "a"),
        ])

    def test_a_chain(self):
        # Only the class right above: the others have an heir of their own between.
        library = chain((Cond(), Cond()), (Cond(), Cond()), (Cond(), Cond()))
        self.assertEqual([plain(duty) for duty in duties(library)], [
            ("Entry", "b", ("call", "a", "m")), ("Exit", "b", ("call", "a", "m"), "a"),
            ("Entry", "c", ("call", "a", "m")), ("Exit", "c", ("call", "a", "m"), "b"),
            ("Entry", "c", ("call", "b", "m")), ("Exit", "c", ("call", "b", "m"), "b"),
            ("Entry", "c", ("next", "b", "m")), ("Exit", "c", ("next", "b", "m"), "b"),
        ])

    def test_a_diamond(self):
        def two(name, bases, *names):
            return ClassDef(name, bases, methods=tuple(method(each, X, "int") for each in names))
        library = Library(two("d", ("c", "b"), "m"), two("a", (), "n", "m"), two("b", ("a",), "m"), two("c", ("a",), "n"))
        found = [plain(duty) for duty in duties(library)]
        self.assertEqual([row for row in found if row[1] == "d"], [
            ("Entry", "d", ("call", "a", "m")), ("Exit", "d", ("call", "a", "m"), "b"), ("Exit", "d", ("call", "a", "m"), "c"),
            ("Entry", "d", ("call", "a", "n")), ("Exit", "d", ("call", "a", "n"), "b"), ("Exit", "d", ("call", "a", "n"), "c"),
            ("Entry", "d", ("call", "b", "m")), ("Exit", "d", ("call", "b", "m"), "b"),
            ("Entry", "d", ("call", "b", "n")), ("Exit", "d", ("call", "b", "n"), "b"),
            ("Entry", "d", ("call", "c", "m")), ("Exit", "d", ("call", "c", "m"), "c"),
            ("Entry", "d", ("call", "c", "n")), ("Exit", "d", ("call", "c", "n"), "c"),
            ("Entry", "d", ("next", "b", "m")), ("Exit", "d", ("next", "b", "m"), "b"),
            ("Entry", "d", ("next", "c", "n")), ("Exit", "d", ("next", "c", "n"), "c"),
        ])
        self.assertEqual([row[1] for row in found], sorted(row[1] for row in found))

    def test_as_the_document_tells_them(self):
        many = 0
        for seed in range(150):
            rng = random.Random(seed)
            library = randoms.library(rng, most=8, bodies=False, dense=seed % 2 == 0)
            found = list(duties(library))
            self.assertEqual([plain(duty) for duty in found], [plain(duty) for duty in naive_duties(library)])
            many += len(found)
        self.assertGreater(many, 1000)

    def test_a_generator(self):
        found = duties(chain((Cond(), Cond()), None))
        self.assertEqual(plain(next(found)), ("Entry", "b", ("call", "a", "m")))
        self.assertIs(iter(found), found)


class Facts(unittest.TestCase):

    def test_entry(self):
        library = chain((Cond(most("x", 9), least("x", 0)), Cond(NEVER)), (Cond(most("x", 7), most("x", 9)), Cond()),
                        (Cond(most("x", 5), most("x", 5)), Cond()))
        duty = HeirEntry("c", Slot("call", "a", "m"))
        # From the owner on, each once, and not those of the heir.
        self.assertEqual(duty_facts(library, duty), [most("x", 9), least("x", 0), most("x", 7)])
        self.assertEqual(duty_claims(library, duty), [most("x", 5), most("x", 5)])
        duty = HeirEntry("c", Slot("call", "b", "m"))
        self.assertEqual(duty_facts(library, duty), [most("x", 7), most("x", 9)])

    def test_exit(self):
        library = chain((Cond(most("x", 9)), Cond(most("result", 1), most("result", 1))),
                        (Cond(most("x", 7)), Cond(most("result", 2))), (Cond(most("x", 5)), Cond(most("result", 3), most("x", 5))))
        duty = HeirExit("c", Slot("call", "a", "m"), "b")
        self.assertEqual(duty_facts(library, duty), [most("x", 9), most("x", 7), most("x", 5), most("result", 3)])
        self.assertEqual(duty_claims(library, duty), [most("result", 2)])
        duty = HeirExit("b", Slot("call", "a", "m"), "a")
        self.assertEqual(duty_facts(library, duty), [most("x", 9), most("x", 7), most("result", 2)])
        self.assertEqual(duty_claims(library, duty), [most("result", 1), most("result", 1)])

    def test_exit_in_a_diamond(self):
        posts = {"a": 1, "b": 2, "c": 3, "d": 4}
        bases = {"a": (), "b": ("a",), "c": ("a",), "d": ("b", "c")}
        library = Library(*[writing(name, bases[name], post=Cond(most("result", posts[name]))) for name in "abcd"])
        duty = HeirExit("d", Slot("call", "a", "m"), "c")
        self.assertEqual(duty_facts(library, duty), [most("result", 4), most("result", 2)])
        self.assertEqual(duty_claims(library, duty), [most("result", 3)])

    def objects(self):
        """Classes with wheres; m has an integer, two objects and an object as its result."""
        params = (("p", "low"), ("x", "int"), ("q", "top"))
        return Library(
            ClassDef("top", fields=("f",), where=Cond(least("self.f", 0))),
            ClassDef("low", ("top",), fields=("g",), where=Cond((("self.g", "self.f", 1),))),
            writing("a", params=params, result="low", body=HALT, fields=("h",), where=Cond(most("self.h", 3)),
                    pre=Cond((("p.g", "q.f", 2),)), post=Cond((("result.f", "self.h", 4),))),
            writing("b", ("a",), params=params, result="low", body=HALT, fields=("k",), where=Cond((("self.k", "self.h", 5),)),
                    pre=Cond((("self.k", "x", 6),)), post=Cond((("result.g", "p.f", 7),))),
        )

    def test_objects(self):
        library = self.objects()
        slot = Slot("call", "a", "m")
        wheres = [most("self.h", 3), (("self.k", "self.h", 5),), least("p.f", 0), (("p.g", "p.f", 1),), least("q.f", 0)]
        self.assertEqual(duty_facts(library, HeirEntry("b", slot)), wheres + [(("p.g", "q.f", 2),)])
        self.assertEqual(duty_facts(library, HeirExit("b", slot, "a")), wheres + [
            (("p.g", "q.f", 2),), (("self.k", "x", 6),), least("result.f", 0), (("result.g", "result.f", 1),),
            (("result.g", "p.f", 7),),
        ])
        self.assertEqual(duty_claims(library, HeirEntry("b", slot)), [(("self.k", "x", 6),)])
        self.assertEqual(duty_claims(library, HeirExit("b", slot, "a")), [(("result.f", "self.h", 4),)])

    def test_next(self):
        # d: b, c, a; b and c ask the next one.
        pres = {"a": 9, "b": 7, "c": 5, "d": 3}
        bases = {"a": (), "b": ("a",), "c": ("a",), "d": ("b", "c"), "e": ("d",)}
        library = Library(*[writing(name, bases[name], pre=Cond(most("x", pres[name]))) for name in "abcd"],
                          ClassDef("e", ("d",)))
        way = [most("0:x", 3)]
        self.assertEqual(duty_facts(library, HeirEntry("e", Slot("next", "d", "m"))), [most("x", 7)] + way)
        # The next of d is asked by two classes: b answers for both.
        way.append(most("1:x", 7))
        self.assertEqual(duty_facts(library, HeirEntry("e", Slot("next", "b", "m"))), [most("x", 9), most("x", 5)] + way)
        # That of b, too: a answers for b alone, c for d and e.
        way.extend([most("2:x", 9), most("2:x", 5)])
        self.assertEqual(duty_facts(library, HeirEntry("e", Slot("next", "c", "m"))), [most("x", 9)] + way)
        self.assertEqual(duty_claims(library, HeirEntry("e", Slot("next", "c", "m"))), [most("x", 9)])
        duty = HeirExit("e", Slot("next", "c", "m"), "d")
        self.assertEqual(duty_facts(library, duty), [most("x", 9)] + way)
        # At d itself the way is shorter by nothing, but the line is.
        self.assertEqual(duty_facts(library, HeirEntry("d", Slot("next", "b", "m"))),
                         [most("x", 9), most("0:x", 3), most("1:x", 7)])

    def test_way_of_objects(self):
        params = (("p", "top"), ("x", "int"))
        def made(name, bases, number, term):
            return writing(name, bases, params=params, pre=Cond(((term, "self.h", number),)),
                           **({"fields": ("h",)} if name == "a" else {}))
        library = Library(
            ClassDef("top", fields=("f",), where=Cond(least("self.f", 0))), made("a", (), 1, "p.f"), made("b", ("a",), 2, "x"),
            made("c", ("b",), 3, "p.f"),
        )
        duty = HeirEntry("c", Slot("next", "b", "m"))
        self.assertEqual(duty_facts(library, duty), [
            least("p.f", 0), (("p.f", "self.h", 1),),
            least("0:p.f", 0), (("0:p.f", "self.h", 3),), least("1:p.f", 0), (("1:x", "self.h", 2),),
        ])
        self.assertEqual(duty_claims(library, duty), [(("p.f", "self.h", 1),)])

    def test_no_way(self):
        # b has no next of its own: its body cannot ask c, which stands behind it for a d.
        library = Library(
            writing("b", pre=Cond(most("x", 9))), writing("a", pre=Cond(most("x", 7))), writing("c", ("a",), pre=Cond(most("x", 5))),
            ClassDef("d", ("b", "c")),
        )
        duty = HeirEntry("d", Slot("next", "c", "m"))
        self.assertEqual(duty_facts(library, duty), [most("x", 7), NEVER])
        self.assertEqual(verdict(library, duty)[0], "kept")

    def test_new_lists(self):
        library = chain((Cond(most("x", 9)), Cond()), (Cond(most("x", 7)), Cond()))
        duty = HeirEntry("b", Slot("call", "a", "m"))
        for ask in (duty_facts, duty_claims):
            found = ask(library, duty)
            self.assertIs(type(found), list)
            found.clear()
            self.assertEqual(len(ask(library, duty)), 1)


class Verdicts(unittest.TestCase):

    def shown(self, library, duty):
        """The word of a verdict, whose integers or trees are looked at."""
        facts, claims = duty_facts(library, duty), duty_claims(library, duty)
        word, found = verdict(library, duty)
        if word == "broken":
            self.assertTrue(hold(facts, found))
            broken = [claim for claim in claims if all(term in found for term in terms_of([claim])) and not hold([claim], found)]
            self.assertTrue([claim for claim in broken if set(found) == terms_of(facts + [claim])])
        else:
            self.assertEqual(word, "kept")
            self.assertIs(type(found), list)
            self.assertEqual(len(found), len(claims))
            for claim, tree in zip(claims, found):
                self.assertTrue(closes(facts + list(negated(claim)), tree))
        return word

    def test_by_one_number(self):
        for number, word in [(8, "broken"), (9, "kept"), (10, "kept"), (-GREAT, "broken"), (GREAT, "kept")]:
            library = chain((Cond(most("x", 9)), Cond()), (Cond(most("x", number)), Cond()))
            self.assertEqual(self.shown(library, HeirEntry("b", Slot("call", "a", "m"))), word)
            self.assertIs(all_kept(library), word == "kept")
        for number, word in [(8, "kept"), (9, "kept"), (10, "broken")]:
            library = chain((Cond(), Cond(most("result", 9))), (Cond(), Cond(most("result", number))))
            self.assertEqual(self.shown(library, HeirExit("b", Slot("call", "a", "m"), "a")), word)
            self.assertIs(all_kept(library), word == "kept")

    def test_claims_of_two_literals(self):
        either = (("x", "", 3), ("", "x", -5))
        library = chain((Cond(either), Cond()), (Cond(either), Cond()))
        self.assertEqual(self.shown(library, HeirEntry("b", Slot("call", "a", "m"))), "kept")
        library = chain((Cond(either), Cond()), (Cond((("x", "", 3), ("", "x", -6))), Cond()))
        self.assertEqual(self.shown(library, HeirEntry("b", Slot("call", "a", "m"))), "broken")
        library = chain((Cond(either), Cond()), (Cond((("x", "", 4), ("", "x", -5))), Cond()))
        self.assertEqual(self.shown(library, HeirEntry("b", Slot("call", "a", "m"))), "kept")

    def test_a_where_helps(self):
        for number, word in [(3, "kept"), (4, "broken")]:
            library = Library(
                writing("a", fields=("f",), where=Cond(most("self.f", number))),
                writing("b", ("a",), pre=Cond(most("self.f", 3))),
            )
            self.assertEqual(self.shown(library, HeirEntry("b", Slot("call", "a", "m"))), word)

    def test_no_claims(self):
        library = chain((Cond(NEVER), Cond()), (Cond(), Cond()))
        self.assertEqual(verdict(library, HeirEntry("b", Slot("call", "a", "m"))), ("kept", []))

    def test_a_joining_class(self):
        # d writes nothing: it joins b to c, and has to answer for that.
        library = Library(
            writing("a"), writing("b", ("a",), pre=Cond(most("x", 5)), post=Cond(most("result", 5))),
            writing("c", ("a",), pre=Cond(most("x", 9)), post=Cond(most("result", 3))), ClassDef("d", ("b", "c")),
        )
        self.assertEqual(self.shown(library, HeirEntry("d", Slot("call", "c", "m"))), "broken")
        self.assertEqual(self.shown(library, HeirExit("d", Slot("call", "c", "m"), "c")), "broken")
        self.assertEqual(self.shown(library, HeirEntry("d", Slot("call", "b", "m"))), "kept")

    def test_the_way_helps(self):
        # A d comes to the next of b only behind the precondition of b, which asks the same field.
        def classes(first, second):
            return Library(
                writing("a", fields=("f",)), writing("b", ("a",), pre=Cond(least("self.f", first))),
                writing("c", ("a",), pre=Cond(least("self.f", 1))), ClassDef("d", ("b", "c")),
                writing("e", ("d",), pre=Cond(least("self.f", second))), writing("g", ("a",), pre=Cond(least("self.f", 2))),
                ClassDef("h", ("e", "g")),
            )
        for first, word in [(0, "broken"), (1, "kept")]:
            self.assertEqual(self.shown(classes(first, 0), HeirEntry("d", Slot("next", "b", "m"))), word)
        # And an h to that of c only behind what b, c and e ask.
        for first, second, word in [(1, 1, "broken"), (2, 0, "kept"), (0, 2, "kept")]:
            self.assertEqual(self.shown(classes(first, second), HeirEntry("h", Slot("next", "c", "m"))), word)

    def test_random(self):
        words = {"broken": 0, "kept": 0}
        for seed in range(80):
            library = randoms.library(random.Random(seed), most=6, bodies=False, dense=seed % 3 > 0, weight=3)
            found = [self.shown(library, duty) for duty in duties(library)]
            for word in found:
                words[word] += 1
            self.assertIs(all_kept(library), "broken" not in found)
        self.assertGreater(min(words.values()), 100)

    def test_a_new_list(self):
        library = chain((Cond(most("x", 9)), Cond()), (Cond(most("x", 9)), Cond()))
        duty = HeirEntry("b", Slot("call", "a", "m"))
        verdict(library, duty)[1].clear()
        self.assertEqual(len(verdict(library, duty)[1]), 1)


class Refused(unittest.TestCase):

    def test_no_duty(self):
        library = Library(
            writing("a"), writing("b", ("a",)), ClassDef("c", ("b",)), ClassDef("d", ("b",)), ClassDef("e", ("c", "d")), writing("k"),
        )
        slot = Slot("call", "a", "m")
        wrong = [
            HeirEntry("a", slot), HeirEntry("k", slot), HeirEntry("zz", slot), HeirEntry([], slot), HeirEntry(None, slot),
            HeirEntry("b", None), HeirEntry("b", []), HeirEntry("b", ("call", "a", "m")), HeirEntry("b", Slot("call", "a", "n")),
            HeirEntry("b", Slot("next", "a", "m")), HeirEntry("b", Slot("next", "b", "m")), HeirEntry("b", Slot("call", [], {})),
            HeirEntry("b", Slot("call", "a", [])), HeirEntry("b", Slot("call", "b", "m")), HeirEntry("b", Slot("call", "c", "m")),
            HeirExit("b", slot, "b"), HeirExit("c", slot, "a"), HeirExit("b", slot, "k"), HeirExit("b", slot, []),
            HeirExit("b", slot, None), HeirExit([], slot, "a"), HeirExit("b", 5, "a"), HeirExit("e", slot, "b"),
            HeirExit("e", slot, "a"), HeirExit("e", Slot("call", "c", "m"), "d"), HeirExit("c", Slot("next", "b", "m"), "a"),
            CallCheck(("a", "m", ())), NewCheck(1), BodyCheck(1), [HeirEntry("b", slot)], ("b", slot), "b", slot,
        ]
        for ask in (duty_facts, duty_claims, verdict):
            for thing in things() + wrong:
                with self.assertRaises(NoDuty) as caught:
                    ask(library, thing)
                self.assertIs(caught.exception.duty, thing)
                with self.assertRaises(NoDuty):
                    ask(Library(), thing)
            for duty in [HeirEntry("b", slot), HeirExit("b", slot, "a"), HeirExit("c", Slot("next", "b", "m"), "b"),
                         HeirExit("e", slot, "c"), HeirExit("e", slot, "d")]:
                ask(library, duty)

    def test_every_duty_is_taken_and_no_other(self):
        rng = random.Random(5)
        for seed in range(30):
            library = randoms.library(random.Random(seed), most=6, bodies=False)
            found = list(duties(library))
            for _ in range(60):
                slot = Slot(rng.choice(["call", "next"]), rng.choice(library.names), rng.choice("mnkg"))
                duty = HeirEntry(rng.choice(library.names), slot)
                if rng.random() < 0.6:
                    duty = HeirExit(duty.heir, slot, rng.choice(library.names))
                if duty in found:
                    verdict(library, duty)
                else:
                    self.assertRaises(NoDuty, verdict, library, duty)


if __name__ == "__main__":
    unittest.main()
