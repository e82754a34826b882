"""[0.3], [2.1], [2.3]: decide and negated."""

import random
import unittest
from itertools import combinations, product

from contractheirs.cases import closes, decide, negated
from contractheirs.errors import ContractError, NoClauses
from tests.support import GREAT, clauses_wrong, hold, leaves_of, literals_wrong, terms_of, things

GOOD = (("x", "y", 1),)


class Decided(unittest.TestCase):
    """Each answer shows by itself that it is right."""

    def decided(self, clauses):
        kept = list(clauses)
        word, found = answer = decide(clauses)
        self.assertIs(type(answer), tuple)
        self.assertEqual(list(clauses), kept)
        if word == "values":
            self.assertIs(type(found), dict)
            self.assertEqual(set(found), terms_of(clauses))
            self.assertTrue(all(type(number) is int for number in found.values()))
            self.assertTrue(hold(clauses, found))
        else:
            self.assertEqual(word, "closed")
            self.assertIs(closes(clauses, found), True)
        return word

    def values(self, *clauses):
        self.assertEqual(self.decided(list(clauses)), "values", clauses)

    def closed(self, *clauses):
        self.assertEqual(self.decided(list(clauses)), "closed", clauses)


class Small(Decided):

    def test_nothing(self):
        self.assertEqual(decide([]), ("values", {}))
        self.assertEqual(decide(()), ("values", {}))

    def test_one_literal(self):
        self.values(GOOD)
        self.values((("x", "y", -GREAT),))
        self.values((("x", "", -5),))
        self.values((("", "x", -5),))

    def test_same_term_on_both_sides(self):
        self.values((("x", "x", 0),))
        self.values((("", "", 0),))
        self.values((("", "", 7),), (("x", "x", 7),))
        self.closed((("x", "x", -1),))
        self.closed((("", "", -1),))
        self.closed((("x", "x", -1), ("", "", -1), ("y", "y", -GREAT)))
        self.values((("x", "x", -1), ("y", "y", 0), ("z", "x", 0)))
        self.values((("x", "x", -1), ("x", "y", -1)), (("y", "y", 0), ("y", "x", -1)))
        self.closed((("x", "x", -1), ("x", "y", -1)), (("y", "y", -1), ("y", "x", -1)))

    def test_rings(self):
        self.values((("x", "y", -1),), (("y", "x", 1),))
        self.closed((("x", "y", -1),), (("y", "x", 0),))
        self.values((("x", "y", -2),), (("y", "z", 1),), (("z", "x", 1),))
        self.closed((("x", "y", -2),), (("y", "z", 1),), (("z", "x", 0),))
        self.closed((("x", "", -1),), (("", "x", 0),))
        self.closed((("x", "", 3),), (("", "x", -5),), (("a", "b", 1),))
        self.closed((("x", "y", GREAT),), (("y", "x", -GREAT),), (("y", "x", -GREAT - 1),))

    def test_same_clause_several_times(self):
        self.values(GOOD, GOOD, GOOD)
        self.closed((("x", "y", -1), ("y", "x", -1)), (("x", "y", 0),), (("y", "x", 0),), (("x", "y", 0),))
        self.closed((("x", "", -1), ("", "x", -1)), (("x", "", 0),), (("", "x", 0),), (("x", "", -1), ("", "x", -1)))

    def test_same_literal_several_times(self):
        self.values((("x", "", -1),) * 6)
        self.closed((("x", "", -1),) * 6, (("", "x", 0),))

    def test_terms_are_any_strings(self):
        self.values((("00:x", "0:p.f", -1),), (("A b.c.d", " ", 0),), (("", "\n", -3),))
        self.closed((("00:x", "0:p.f", -1),), (("0:p.f", "00:x", 0),))
        self.closed((("", " ", -1),), ((" ", "", 0),))

    def test_all_terms_are_keys(self):
        word, found = decide([(("a", "b", -1), ("c", "d", -1)), (("e", "e", 0), ("f", "", -1)), (("", "g", 0),)])
        self.assertEqual((word, sorted(found)), ("values", list("abcdefg")))

    def test_choices(self):
        self.values((("x", "", -1), ("", "x", -1)))
        self.values((("x", "", -1), ("", "x", -1)), (("", "x", 0),))
        self.closed((("x", "", -1), ("", "x", -1)), (("", "x", 0),), (("x", "", 0),))
        self.values((("x", "y", -1), ("y", "x", -1)), (("x", "y", 0), ("y", "z", 0)), (("z", "x", 0),))

    def test_new_each_time(self):
        one, two = decide([GOOD])[1], decide([GOOD])[1]
        self.assertIsNot(one, two)
        one["x"] = None
        self.assertTrue(hold([GOOD], two))


class Trees(unittest.TestCase):

    def test_cases_within_cases(self):
        clauses = [(("x", "", -1), ("", "x", -1)), (("y", "x", 0), ("x", "y", 0)), (("", "x", 9),),
                   (("x", "", 9),), (("y", "", 0),), (("", "y", 0),), (("x", "y", -1), ("y", "x", -1), ("z", "z", -1))]
        clauses += [(("x", "y", 0),), (("y", "x", 0),)]
        word, tree = decide(clauses)
        self.assertEqual(word, "closed")
        self.assertGreaterEqual(leaves_of(clauses, tree), 2)

    def test_orders_of_three(self):
        # Three in a row of two places: each way to put them in order is too long.
        names = "abc"
        clauses = [(("", name, 0),) for name in names] + [((name, "", 1),) for name in names]
        for one, other in combinations(names, 2):
            clauses.append(((one, other, -1), (other, one, -1)))
        word, tree = decide(clauses)
        self.assertEqual(word, "closed")
        self.assertGreater(leaves_of(clauses, tree), 2)

    def test_tree_with_all_ways(self):
        # Each ring needs all clauses, so each way to pick is a ring of its own.
        clauses = [tuple((f"x{k}", f"x{k + 1}", -j) for j in range(3)) for k in range(4)]
        clauses.append((("x4", "x0", -1),))
        word, tree = decide(clauses)
        self.assertEqual((word, leaves_of(clauses, tree)), ("closed", 81))
        clauses[-1] = (("x4", "x0", 0),)
        self.assertEqual(decide(clauses)[0], "values")


class Chance(Decided):
    """Clauses at random: what is decided is right each time, as all answers show by themselves."""

    def test_at_random(self):
        source = random.Random(1)
        words = {"values": 0, "closed": 0}
        for _ in range(3000):
            terms = ["", "a", "b", "c.d", "e", "f", "g"][:source.randint(2, 7)]
            span = source.choice([1, 3, 20, GREAT])
            high = source.choice([span // 2, span])

            def literal():
                return (source.choice(terms), source.choice(terms), source.randint(-span, high))

            clauses = [(literal(),) for _ in range(source.randint(0, 10))]
            for _ in range(source.randint(0, 12)):
                clauses.append(tuple(literal() for _ in range(source.randint(2, 6))))
            source.shuffle(clauses)
            word = self.decided(clauses)
            words[word] += 1
            if word == "closed":
                leaves_of(clauses, decide(clauses)[1])
        self.assertGreater(min(words.values()), 500)

    def test_against_all_small_values(self):
        source = random.Random(2)
        for _ in range(300):
            terms = ["", "a", "b", "c"]
            clauses = [((term, "", 2),) for term in terms[1:]] + [(("", term, 2),) for term in terms[1:]]
            for _ in range(source.randint(2, 8)):
                clauses.append(tuple((source.choice(terms), source.choice(terms), source.randint(-4, 0))
                                     for _ in range(source.randint(1, 4))))
            wanted = any(hold(clauses, dict(zip("abc", row))) for row in product(range(-2, 3), repeat=3))
            self.assertEqual(self.decided(clauses), "values" if wanted else "closed")


class Great(Decided):

    def chain(self, many, source):
        """A chain of clauses of one literal with great numbers, and the sum of these."""
        numbers = [source.randint(-GREAT, GREAT) for _ in range(many)]
        clauses = [((f"n{k}", f"n{k + 1}", number),) for k, number in enumerate(numbers)]
        return clauses, sum(numbers)

    def test_long_chains(self):
        source = random.Random(3)
        clauses, total = self.chain(19999, source)
        for order in (list, reversed, lambda row: source.sample(row, len(row))):
            row = list(order(clauses))
            self.values(*row)
            self.values(*row, (("n19999", "n0", -total),))
            self.closed(*row, (("n19999", "n0", -total - 1),))

    def test_chains_of_equal_terms(self):
        source = random.Random(4)
        forth, total = self.chain(9999, source)
        back = [((right, left, -number),) for ((left, right, number),) in forth]
        row = source.sample(forth + back, 2 * 9999)
        self.values(*row)
        self.values(*row, (("n0", "n9999", total),))
        self.closed(*row, (("n0", "n9999", total - 1),))

    def test_chains_with_bounds(self):
        source = random.Random(5)
        many = 6000
        clauses = [((f"n{k}", f"n{k + 1}", -1),) for k in range(many)]
        clauses += [(("", f"n{k}", 0),) for k in range(many + 1)]
        clauses += [((f"n{k}", "", many + 5),) for k in range(many + 1)]
        for order in (list, reversed, lambda row: source.sample(row, len(row))):
            row = list(order(clauses))
            self.values(*row)
            self.closed(*row, ((f"n{many}", "", many - 1),))

    def test_twelve_choices_in_a_long_chain(self):
        source = random.Random(6)
        clauses, total = self.chain(19800, source)
        for k in range(12):
            at = 1500 * k
            ((left, right, number),) = clauses[at]
            clauses[at] = tuple((left, right, number - n) for n in source.sample(range(6), 6))
        clauses = source.sample(clauses, len(clauses))
        self.values(*clauses, (("n19800", "n0", -total),))
        self.values(*clauses, (("n19800", "n0", -total), ("n0", "n0", -1)))

    def test_choices_in_a_long_chain_are_closed(self):
        source = random.Random(7)
        clauses, total = self.chain(3000, source)
        for k in range(6):
            ((left, right, number),) = clauses[400 * k]
            clauses[400 * k] = ((left, right, number), (left, right, number - GREAT))
        self.values(*clauses, (("n3000", "n0", -total),))
        self.closed(*clauses, (("n3000", "n0", -total - 1),))

    def test_twelve_choices_of_two_with_all_ways(self):
        clauses = [((f"x{k}", f"x{k + 1}", 1), (f"x{k}", f"x{k + 1}", 0)) for k in range(12)]
        self.values(*clauses, (("x12", "x0", -12),))
        clauses.append((("x12", "x0", -13),))
        word, tree = decide(clauses)
        self.assertEqual((word, leaves_of(clauses, tree)), ("closed", 4096))

    def test_boxes(self):
        # Five boxes in a box that has room for four of them, then for five.
        names = "abcde"
        for long, word in ((4, "closed"), (6, "values")):
            clauses = []
            for name in names:
                for way, room in (("x", long), ("y", 5), ("z", 3)):
                    clauses += [(("", name + way, 0),), ((name + way, "", room - 2),)]
            for one, other in combinations(names, 2):
                pairs = [(one + way, other + way) for way in "xyz"]
                clauses.append(tuple((left, right, -2) for pair in pairs for left, right in (pair, pair[::-1])))
            self.assertEqual(self.decided(clauses), word)

    def test_layers(self):
        # Twelve clauses of six literals: each term of a layer is at most some term of the layer below.
        clauses = [((f"a{k}", "", 0),) for k in range(6)]
        for low, high in ("ab", "bc"):
            clauses += [tuple((f"{high}{k}", f"{low}{j}", j) for j in range(6)) for k in range(6)]
        self.values(*clauses, (("", "c0", -10),))
        self.closed(*clauses, (("", "c0", -11),))

    def test_many_clauses(self):
        self.values(*[((f"x{k}", "", 0), ("", f"x{k}", -5)) for k in range(20000)])
        self.values(*[((f"x{k}", "", -1), ("", f"x{k}", -5)) for k in range(200)])

    def test_deep_tree(self):
        # More cases one within the other than tuples may be nested: what is returned may be passed on.
        clauses = []
        for k in range(40):
            clauses += [((f"x{k}", f"x{k + 1}", 1), (f"y{k}", f"y{k}", -1))]
        self.values(*clauses, (("x40", "x0", -40),))
        self.closed(*clauses, (("x40", "x0", -41),))


class Refused(unittest.TestCase):

    def refused(self, at, clauses, call=decide):
        with self.assertRaises(NoClauses) as caught:
            call(clauses)
        self.assertIs(type(caught.exception.at), int)
        self.assertEqual(caught.exception.at, at)

    def test_no_list(self):
        for thing in things() + [{GOOD: 1}, {GOOD}, iter([GOOD]), "".join, range(0)]:
            self.refused(-1, thing)

    def test_too_many(self):
        self.refused(-1, [GOOD] * 20001)
        self.refused(-1, (None,) * 20001)
        self.assertEqual(decide([GOOD] * 20000)[0], "values")

    def test_first_that_is_none(self):
        for thing in clauses_wrong():
            self.refused(0, [thing])
            self.refused(0, (thing,))
            self.refused(2, [GOOD, GOOD * 6, thing, GOOD, thing])
        self.refused(19999, [GOOD] * 19999 + [()])

    def test_number_of_literals(self):
        for many in range(1, 7):
            self.assertEqual(decide([GOOD * many])[0], "values")
        for many in (0, 7, 8, 100):
            self.refused(1, [GOOD, GOOD * many])

    def test_ahead_of_any_answer(self):
        self.refused(1, [(("x", "x", -1),), (("x", "x", True),)])

    def test_caught(self):
        for base in (ContractError, ValueError):
            with self.assertRaises(base):
                decide(None)


class Negated(unittest.TestCase):

    def test_each_literal_is_turned(self):
        self.assertEqual(negated((("x", "y", 3),)), ((("y", "x", -4),),))
        self.assertEqual(negated((("x", "", -1), ("", "a b", 0))), ((("", "x", 0),), (("a b", "", -1),)))
        self.assertEqual(negated((("x", "x", GREAT),) * 6), ((("x", "x", -GREAT - 1),),) * 6)
        self.assertIs(type(negated(GOOD)), tuple)

    def test_says_that_the_clause_does_not_hold(self):
        clause = (("x", "y", 1), ("", "x", -2), ("y", "", 0))
        for x, y in product(range(-5, 6), repeat=2):
            values = {"x": x, "y": y}
            self.assertNotEqual(hold([clause], values), hold(negated(clause), values))

    def test_cannot_both_hold(self):
        for clause in [GOOD, (("x", "y", 1), ("y", "z", -5)), GOOD * 6]:
            rows = [clause, *negated(clause)]
            word, tree = decide(rows)
            self.assertEqual((word, closes(rows, tree)), ("closed", True))

    def test_twice(self):
        self.assertEqual(negated(negated(GOOD)[0]), (GOOD,))

    def test_refused(self):
        for thing in clauses_wrong() + [GOOD * 7, [GOOD], (GOOD,)]:
            with self.assertRaises(NoClauses) as caught:
                negated(thing)
            self.assertEqual(caught.exception.at, 0)
        for literal in literals_wrong():
            with self.assertRaises(NoClauses):
                negated((GOOD[0], GOOD[0], literal))


if __name__ == "__main__":
    unittest.main()
