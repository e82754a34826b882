"""[6.1] to [6.5], [7.2]: runs of random clients in random libraries, against tests/naive.py."""

import random
import unittest

from contractheirs.checks import BodyCheck, CallCheck, NewCheck
from contractheirs.duties import duties, duty_facts
from contractheirs.errors import BadBody, BadLibrary, Breach, TooDeep, TooLong
from contractheirs.runs import breaches, run
from tests import naive, randoms
from tests.support import hold


def end_of(library, client, tape, **more):
    """How a run ends, in the form of tests/naive.py."""
    try:
        return run(library, client, tape, **more)
    except (TooLong, TooDeep) as error:
        return type(error).__name__
    except Breach as breach:
        return naive.plain_breach(breach)


def cases(seeds, many=6, **more):
    """Random libraries, each with some clients and tapes."""
    for seed in seeds:
        rng = random.Random(seed)
        try:
            library = randoms.library(rng, dense=seed % 2 == 0, **more)
        except BadLibrary:
            continue
        for _ in range(many):
            yield rng, library, randoms.client(rng, library), randoms.tape(rng)


class Runs(unittest.TestCase):

    def test_the_same_end_and_breaches(self):
        words = {}
        for rng, library, client, tape in cases(range(400), most=6):
            steps = rng.choice([500, 500, 500, 20, 6])
            try:
                found = end_of(library, client, tape, steps=steps)
            except BadBody as error:
                self.assertEqual(error.why, "size")
                continue
            wanted, trail, _ = naive.outcome(library, client, tape, steps=steps)
            self.assertEqual(found, wanted)
            word = found if isinstance(found, str) else found[0]
            words[word] = words.get(word, 0) + 1
            if not isinstance(found, str):
                row = breaches(library, client, tape, steps=steps)
                self.assertEqual([naive.plain_breach(one) for one in row], trail)
        for word in ("returned", "halted", "TooLong", "TooDeep", "new", "call", "body", "heir"):
            self.assertIn(word, words)

    def test_without_checks(self):
        for rng, library, client, tape in cases(range(1000, 1250), most=5):
            found = list(duties(library))
            without = rng.sample(found, rng.randrange(len(found) + 1))
            try:
                whole = breaches(library, client, tape)
            except (BadBody, TooLong, TooDeep):
                continue
            for breach in whole:
                kind = {"call": CallCheck, "new": NewCheck, "body": BodyCheck}.get(breach.kind)
                if kind is not None and rng.random() < 0.7:
                    without.append(kind(breach.site))
            wanted, _, _ = naive.outcome(library, client, tape, without=without)
            self.assertEqual(end_of(library, client, tape, without=without), wanted)

    def test_the_facts_of_duties_hold_when_they_are_asked(self):
        many = {"call": 0, "next": 0}
        for _, library, client, tape in cases(range(2000, 2500), most=6):
            try:
                end_of(library, client, tape)
            except BadBody:
                continue
            for check, kind, numbers, trail in naive.outcome(library, client, tape)[2].asked:
                known = dict(numbers)
                if check.slot.word == "next":
                    if kind != check.heir:
                        continue
                    for at, one in enumerate(trail[:-1]):
                        known.update({f"{at}:{term}": number for term, number in one.items()})
                self.assertTrue(hold(duty_facts(library, check), known))
                many[check.slot.word] += 1
        self.assertGreater(many["call"], 300)
        self.assertGreater(many["next"], 10)


if __name__ == "__main__":
    unittest.main()
