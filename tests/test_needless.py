"""[0.2], [8.4]: needless and is_sound: their order, and runs with and without the needless checks."""

import random
import unittest

from contractheirs.bodies import sites
from contractheirs.checks import BodyCheck, CallCheck, HeirEntry, HeirExit, NewCheck
from contractheirs.classes import ClassDef, Method
from contractheirs.conditions import Cond
from contractheirs.duties import admitted, all_kept, duties, verdict
from contractheirs.errors import BadBody, BadLibrary, Breach, TooDeep, TooLong, Unkept
from contractheirs.libraries import Library
from contractheirs.runs import breaches
from contractheirs.slots import Slot
from contractheirs.ways import can_fail, is_sound, needless
from tests import randoms
from tests.rows import ASK, BACK, HALT, NEVER, X, attempt, call, following, least, let, most, new, writing
from tests.test_random_runs import cases, end_of


class Needless(unittest.TestCase):

    def test_none(self):
        self.assertEqual(needless(Library()), [])
        self.assertEqual(needless(Library(ClassDef("b"), ClassDef("a", ("b",)))), [])

    def test_order(self):
        # Classes ascending, methods as written, sites by statements; then the duties.
        body = attempt(let("r", call("self", "k", ("x", 0)), let("o", new("top"), BACK)), let("s", following(("x", 0)), BACK))
        def made(name, bases, rest=()):
            return ClassDef(name, bases, methods=(Method("m", X, "int", body=body if rest else BACK), *rest))
        other = Method("k", X, "int", body=let("v", ASK, BACK))
        library = Library(made("z", ("b",)), made("c", ("b",), (other,)), ClassDef("top"), made("b", (), ()))
        slot = Slot("call", "b", "m")
        self.assertEqual(needless(library), [
            BodyCheck(("b", "m", ())),
            CallCheck(("c", "m", (0,))), NewCheck(("c", "m", (0, 0))), BodyCheck(("c", "m", (0, 0, 0))),
            CallCheck(("c", "m", (1,))), BodyCheck(("c", "m", (1, 0))), BodyCheck(("c", "k", (0,))),
            BodyCheck(("z", "m", ())),
            HeirEntry("c", slot), HeirExit("c", slot, "b"), HeirEntry("z", slot), HeirExit("z", slot, "b"),
        ])
        self.assertIs(is_sound(library), True)

    def test_only_those_that_cannot_fail(self):
        library = Library(
            ClassDef("top", fields=("f",), where=Cond(least("self.f", 0))),
            writing("a", pre=Cond(least("x", 1)), post=Cond(least("result", 1)),
                    body=let("o", new("top", ("x", -1)), ("return", ("x", -1)))),
            writing("b", ("a",), pre=Cond(least("x", 2)), post=Cond(least("result", 0)),
                    body=let("r", following(("x", -2)), ("return", ("r", -1)))),
        )
        slot = Slot("call", "a", "m")
        self.assertEqual(needless(library), [NewCheck(("a", "m", ())), BodyCheck(("b", "m", (0,)))])
        self.assertIs(is_sound(library), False)
        self.assertEqual([verdict(library, duty)[0] for duty in (HeirEntry("b", slot), HeirExit("b", slot, "a"))],
                         ["broken", "broken"])

    def test_a_new_list(self):
        library = Library(writing("a"))
        found = needless(library)
        self.assertIs(type(found), list)
        found.clear()
        self.assertEqual(needless(library), [BodyCheck(("a", "m", ()))])

    def test_random(self):
        for seed in range(40):
            try:
                library = randoms.library(random.Random(seed))
            except BadLibrary:
                continue
            wanted = []
            for name in library.names:
                for method in library[name].methods:
                    for site in sites(library, name, method.name):
                        if can_fail(library, *site) is None:
                            wanted.append(site)
            kept = [duty for duty in duties(library) if verdict(library, duty)[0] == "kept"]
            found = needless(library)
            self.assertEqual([check.site for check in found[:len(wanted)]], wanted)
            self.assertEqual(found[len(wanted):], kept)
            many = len([site for name in library.names for method in library[name].methods
                        for site in sites(library, name, method.name)])
            self.assertIs(is_sound(library), len(wanted) == many and all_kept(library))


class Sound(unittest.TestCase):

    def made(self, **numbers):
        """A library that is sound, but for one number."""
        def number(key, otherwise):
            return numbers.get(key, otherwise)
        return Library(
            ClassDef("top", fields=("f",), where=Cond(most("self.f", number("where", 9)))),
            writing("a", pre=Cond(most("x", 5)), post=Cond(most("result", number("post", 8))),
                    body=let("o", new("top", ("x", number("new", 4))), ("return", ("x", number("back", 3))))),
            writing("b", ("a",), pre=Cond(most("x", number("pre", 5))), post=Cond(most("result", number("own", 8))),
                    body=let("r", following(("x", number("next", 0))), ("return", ("r", 0)))),
        )

    def test_by_one_number(self):
        self.assertIs(is_sound(self.made()), True)
        slight = {"where": 8, "post": 7, "new": 5, "back": 4, "pre": 4, "own": 9, "next": 1}
        for key, number in slight.items():
            self.assertIs(is_sound(self.made(**{key: number})), False, key)
        for key, number in {"where": 10, "new": 3, "back": 2, "next": -1}.items():
            self.assertIs(is_sound(self.made(**{key: number})), True, key)

    def test_nothing_at_all(self):
        self.assertIs(is_sound(Library()), True)
        self.assertIs(is_sound(Library(ClassDef("a", where=Cond(NEVER)))), True)
        self.assertIs(is_sound(Library(writing("a", post=Cond(NEVER), body=HALT))), True)

    def test_only_the_client_is_blamed(self):
        many = 0
        sound = 0
        for _, library, client, tape in cases(range(5000, 5400), many=6, weight=1):
            if not is_sound(library):
                continue
            sound += 1
            try:
                found = breaches(library, client, tape)
            except (BadBody, TooLong, TooDeep):
                continue
            for breach in found:
                self.assertIs(breach.blamed, None)
                self.assertIn(breach.kind, ("call", "new"))
                many += 1
        self.assertGreater(sound, 100)
        self.assertGreater(many, 20)


class Runs(unittest.TestCase):
    """Without the needless checks all runs end alike."""

    def test_the_library_itself(self):
        many = 0
        checked = {}
        for _, library, client, tape in cases(range(6000, 6250), many=8):
            if id(library) not in checked:
                checked[id(library)] = (library, needless(library))
            try:
                whole = end_of(library, client, tape)
            except BadBody:
                continue
            self.assertEqual(end_of(library, client, tape, without=checked[id(library)][1]), whole)
            many += isinstance(whole, tuple) and len(whole) > 2
        self.assertGreater(many, 100)

    def test_with_heirs_that_keep_their_duties(self):
        many = 0
        heirs = 0
        for seed in range(400):
            rng = random.Random(seed)
            try:
                library = randoms.library(rng, most=4, dense=seed % 2 == 0, weight=1)
            except BadLibrary:
                continue
            without = needless(library)
            larger = library
            for name in ("va", "vb", "vc"):
                larger = self.with_heir(rng, larger, name)
            heirs += len(larger.names) - len(library.names)
            for _ in range(6):
                client, tape = randoms.client(rng, larger), randoms.tape(rng)
                try:
                    whole = end_of(larger, client, tape)
                except BadBody:
                    continue
                self.assertEqual(end_of(larger, client, tape, without=without), whole)
                many += isinstance(whole, tuple) and len(whole) > 2
        self.assertGreater(heirs, 150)
        self.assertGreater(many, 100)

    def with_heir(self, rng, library, name):
        """The library with one more heir, if that keeps its duties."""
        bases = tuple(rng.sample(library.names, rng.randrange(1, min(3, len(library.names)) + 1)))
        methods = []
        try:
            bare = library.changed(ClassDef(name, bases))
            for method in bare.methods_of(name):
                if rng.random() < 0.5:
                    writer = bare[bare.writer_of(name, method)]
                    its = [one for one in writer.methods if one.name == method][0]
                    post = its.post if rng.random() < 0.7 else Cond()
                    methods.append(Method(method, its.params, its.result, post=post, body=HALT))
            made = ClassDef(name, bases, methods=tuple(methods[:3]))
            bare = library.changed(made)
            rows = []
            for method in made.methods:
                body = randoms.Bodies(rng, bare, name, method).body()
                rows.append(Method(method.name, method.params, method.result, pre=method.pre, post=method.post, body=body))
            return admitted(library, ClassDef(name, bases, methods=tuple(rows)))
        except (BadLibrary, Unkept):
            return library


if __name__ == "__main__":
    unittest.main()
