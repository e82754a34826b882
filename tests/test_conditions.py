"""[0.3], [1.1] to [1.5]: Cond."""

import unittest

from contractheirs.conditions import Cond
from contractheirs.errors import BadCond, ContractError, NoValue
from tests.support import GREAT, clauses_wrong, literals_wrong, things

ONE = (("x", "y", 1),)
TWO = (("x", "y", 1), ("", "z", -2))


def singles(*numbers):
    return [(("x", "y", n),) for n in numbers]


class Made(unittest.TestCase):

    def refused(self, at, *clauses):
        with self.assertRaises(BadCond) as caught:
            Cond(*clauses)
        self.assertIs(type(caught.exception.clause), int)
        self.assertEqual(caught.exception.clause, at, clauses)

    def test_values(self):
        for clauses in [(), (ONE,), (TWO,), (ONE, TWO), (TWO, ONE), (ONE, ONE, ONE, ONE), (ONE, ONE, ONE, TWO)]:
            cond = Cond(*clauses)
            self.assertIs(type(cond.clauses), tuple)
            self.assertEqual(cond.clauses, clauses)
            self.assertEqual(len(cond), len(clauses))
            for kept, passed in zip(cond.clauses, clauses):
                self.assertIs(kept, passed)

    def test_terms_that_are_ones(self):
        for term in ["", "a", "z", "abcdefgh", "acc.limit", "a.b", "abcdefgh.abcdefgh", "result", "result.f", "self.f",
                     "if", "zero"]:
            self.assertEqual(Cond(((term, "x", 0),)).clauses, (((term, "x", 0),),))
            self.assertEqual(Cond((("x", term, 0),)).clauses, ((("x", term, 0),),))

    def test_terms_that_are_none(self):
        for term in ["A", "aB", "abcdefghi", "a.abcdefghi", "abcdefghi.a", "a.b.c", ".", "a.", ".a", "..", "a..b", "a b",
                     " ", "a ", " a", "a1", "1", "_", "a_b", "a-b", "0:x", "a\n", "\n", "a.b\n", "{", "`", "a,b", "*"]:
            self.refused(0, ((term, "x", 0),))
            self.refused(0, (("x", term, 0),))
            self.refused(1, ONE, (("x", "y", 0), ("x", term, 0)))
            self.refused(2, ONE, TWO, ((term, "x", 0),))

    def test_numbers(self):
        for number in (0, 1, -1, GREAT, -GREAT):
            self.assertEqual(Cond((("x", "y", number),)).clauses, ((("x", "y", number),),))

    def test_things_that_are_no_clauses(self):
        for thing in clauses_wrong():
            self.refused(0, thing)
            self.refused(0, thing, thing)
            self.refused(1, ONE, thing)
            self.refused(3, ONE, TWO, ONE, thing)

    def test_number_of_literals(self):
        self.refused(0, ())
        self.refused(0, ONE * 3)
        self.refused(2, ONE, ONE, ONE * 3, ())
        self.refused(0, ONE * 6)

    def test_second_clause_of_two(self):
        self.refused(1, TWO, TWO)
        self.refused(2, TWO, ONE, TWO)
        self.refused(3, TWO, ONE, ONE, TWO)
        self.refused(3, ONE, ONE, TWO, TWO)
        self.refused(1, TWO, TWO, None)
        self.refused(1, TWO, None, TWO)
        self.refused(1, TWO, ONE * 2, TWO)

    def test_more_than_four_come_first(self):
        self.refused(-1, *[ONE] * 5)
        self.refused(-1, *[None] * 5)
        self.refused(-1, TWO, TWO, None, (), [])
        self.refused(-1, *singles(*range(9)))
        self.assertEqual(len(Cond(*singles(*range(4)))), 4)

    def test_errors_are_contract_errors(self):
        for base in (ContractError, ValueError):
            with self.assertRaises(base):
                Cond(None)

    def test_always_holds(self):
        self.assertTrue(Cond()({}))
        self.assertTrue(Cond()({"x": 1}))
        self.assertEqual((Cond().clauses, Cond().terms, len(Cond())), ((), (), 0))

    def test_terms(self):
        for clauses, terms in [
            ((ONE,), ("x", "y")), ((TWO,), ("x", "y", "z")), (((("", "", 1),),), ()), (((("x", "x", 1),),), ("x",)),
            (((("z", "b", 1),), (("a", "b", 2), ("", "a.b", 2))), ("a", "a.b", "b", "z")),
            (((("self.f", "p.g", 1),), (("result", "", 2),)), ("p.g", "result", "self.f")),
        ]:
            self.assertEqual(Cond(*clauses).terms, terms)
            self.assertIs(type(Cond(*clauses).terms), tuple)
        self.assertIn("terms", vars(Cond()))
        self.assertIn("clauses", vars(Cond()))

    def test_methods_stand_in_the_class(self):
        for name in ["__init__", "__call__", "__and__", "__eq__", "__len__", "between", "equal", "implies"]:
            self.assertIn(name, vars(Cond))
        self.assertEqual(Cond.__module__, "contractheirs.conditions")


class Called(unittest.TestCase):

    def test_literal(self):
        cond = Cond((("x", "y", 3),))
        self.assertIs(cond({"x": 5, "y": 2}), True)
        self.assertIs(cond({"x": 6, "y": 2}), False)
        self.assertIs(cond({"x": -GREAT, "y": GREAT}), True)
        self.assertIs(cond({"x": GREAT, "y": GREAT - 3}), True)
        self.assertIs(cond({"x": GREAT, "y": GREAT - 4}), False)

    def test_zero(self):
        self.assertTrue(Cond((("", "x", -1),))({"x": 1}))
        self.assertFalse(Cond((("", "x", -1),))({"x": 0}))
        self.assertTrue(Cond((("x", "", 1),))({"x": 1}))
        self.assertFalse(Cond((("x", "", 1),))({"x": 2}))
        self.assertTrue(Cond((("", "", 0),))({}))
        self.assertFalse(Cond((("", "", -1),))({}))

    def test_same_term(self):
        self.assertTrue(Cond((("x", "x", 0),))({"x": 9}))
        self.assertFalse(Cond((("x", "x", -1),))({"x": 9}))

    def test_one_of_two_and_all_clauses(self):
        cond = Cond((("x", "", -5), ("", "x", -5)), (("x", "y", 0),))
        for x, y, wanted in [(5, 5, True), (-5, 0, True), (4, 5, False), (-4, 5, False), (6, 5, False), (-5, -6, False)]:
            self.assertIs(cond({"x": x, "y": y}), wanted)

    def test_other_keys(self):
        cond = Cond(ONE)
        self.assertTrue(cond({"x": 1, "y": 1, "z": "no", "": None, 7: []}))
        self.assertFalse(Cond((("", "x", 0),))({"x": -1, "": -5}))
        self.assertTrue(Cond((("", "", 0),))({"": 5}))

    def missing(self, term, cond, values):
        with self.assertRaises(NoValue) as caught:
            cond(values)
        self.assertEqual(caught.exception.term, term)

    def test_first_missing_term(self):
        cond = Cond((("", "a", 0), ("b", "c", 0)), (("d", "", 0),), (("a", "e.f", 0),))
        values = {"a": 1, "b": 1, "c": 1, "d": 1, "e.f": 1}
        for term in list(values):
            self.missing(term, cond, {key: n for key, n in values.items() if key != term})
        self.missing("a", cond, {})
        self.missing("b", cond, {"a": 1})
        self.missing("c", cond, {"a": 1, "b": 1, "e.f": 1})
        self.missing("d", cond, {"a": 1, "b": 1, "c": 1, "e": 1, "f": 1})

    def test_missing_ahead_of_anything_else(self):
        cond = Cond((("", "", -1),), (("x", "x", -1),), (("x", "y", 0), ("x", "x", 0)))
        self.missing("x", cond, {})
        self.missing("y", cond, {"x": 1})
        self.missing("y", Cond((("x", "x", 0), ("x", "y", 0))), {"x": 1})

    def test_values_are_not_changed(self):
        values = {"x": 1, "y": 2}
        Cond(ONE)(values)
        self.assertEqual(list(values.items()), [("x", 1), ("y", 2)])


class Joined(unittest.TestCase):

    def test_in_order(self):
        a, b, c, d = singles(1, 2, 3, 4)
        self.assertEqual((Cond(a, b) & Cond(c, d)).clauses, (a, b, c, d))
        self.assertEqual((Cond(c, d) & Cond(a, b)).clauses, (c, d, a, b))
        self.assertEqual((Cond(a) & Cond()).clauses, (a,))
        self.assertEqual((Cond() & Cond(a)).clauses, (a,))
        self.assertEqual((Cond() & Cond()).clauses, ())
        self.assertIs(type(Cond() & Cond()), Cond)
        self.assertEqual((Cond(a) & Cond(TWO)).terms, ("x", "y", "z"))

    def test_in_common(self):
        a, b, c, d = singles(1, 2, 3, 4)
        self.assertEqual((Cond(a, b, c) & Cond(c, a, d)).clauses, (a, b, c, d))
        self.assertEqual((Cond(a, b, c, d) & Cond(d, c, b, a)).clauses, (a, b, c, d))
        self.assertEqual((Cond(TWO, a) & Cond(b, TWO)).clauses, (TWO, a, b))
        self.assertEqual((Cond(a, b, a, a) & Cond()).clauses, (a, b))
        self.assertEqual((Cond() & Cond(a, b, a, b)).clauses, (a, b))
        self.assertEqual((Cond(a, a, b) & Cond(c, c, b, d)).clauses, (a, b, c, d))

    def test_other_clauses_are_not_in_common(self):
        turned = (TWO[1], TWO[0])
        self.assertEqual(len(Cond(ONE) & Cond((("y", "x", 1),)) & Cond((("x", "y", -1),))), 3)
        with self.assertRaises(BadCond) as caught:
            Cond(TWO) & Cond(turned)
        self.assertEqual(caught.exception.clause, 1)

    def test_bad(self):
        a, b, c, d, e = singles(1, 2, 3, 4, 5)
        other = (("x", "y", 2), ("", "z", -2))
        for one, two, at in [
            (Cond(a, b, c), Cond(d, e), -1), (Cond(a, b, c, d), Cond(e), -1), (Cond(a, TWO), Cond(b, c, other), -1),
            (Cond(TWO), Cond(other), 1), (Cond(a, TWO), Cond(b, other), 3), (Cond(TWO, a), Cond(a, other), 2),
            (Cond(a, a, TWO), Cond(a, other), 2),
        ]:
            kept = (one.clauses, two.clauses, one.terms, two.terms)
            with self.assertRaises(BadCond) as caught:
                one & two
            self.assertEqual(caught.exception.clause, at)
            self.assertEqual((one.clauses, two.clauses, one.terms, two.terms), kept)

    def test_both_sides_are_unchanged(self):
        a, b, c = singles(1, 2, 3)
        one, two = Cond(a, b, a), Cond(b, c)
        one & two
        self.assertEqual((one.clauses, two.clauses), ((a, b, a), (b, c)))


class Equal(unittest.TestCase):

    def test_equal(self):
        self.assertTrue(Cond() == Cond())
        self.assertTrue(Cond(ONE, TWO) == Cond((("x", "y", 1),), (("x", "y", 1), ("", "z", -2))))
        self.assertFalse(Cond(ONE) != Cond(ONE))
        self.assertTrue(Cond((("x", "y", GREAT),)) == Cond((("x", "y", 10 ** 100 - 1),)))

    def test_not_equal(self):
        for other in [Cond(), Cond(TWO), Cond(TWO, ONE), Cond(ONE, TWO, ONE), Cond(ONE, (TWO[1], TWO[0])),
                      Cond((("x", "y", 2),), TWO), Cond((("y", "x", 1),), TWO)]:
            self.assertFalse(Cond(ONE, TWO) == other)
            self.assertTrue(Cond(ONE, TWO) != other)

    def test_nothing_of_another_class(self):
        for thing in things() + [(ONE,), [ONE], ONE, ((ONE,),)]:
            if type(thing) is not Cond:
                for cond in (Cond(), Cond(ONE)):
                    self.assertIs(cond == thing, False)
                    self.assertIs(thing == cond, False)
                    self.assertIs(cond != thing, True)


class BetweenAndEqual(unittest.TestCase):

    def test_between(self):
        self.assertEqual(Cond.between("x", 1, 3).clauses, ((("", "x", -1),), (("x", "", 3),)))
        self.assertEqual(Cond.between("a.b", -4, 0).clauses, ((("", "a.b", 4),), (("a.b", "", 0),)))
        self.assertEqual(Cond.between("x", GREAT, GREAT).clauses, ((("", "x", -GREAT),), (("x", "", GREAT),)))
        self.assertEqual([Cond.between("x", 1, 3)({"x": n}) for n in range(5)], [False, True, True, True, False])

    def test_odd_between(self):
        self.assertEqual(Cond.between("x", 3, 1).clauses, ((("", "x", -3),), (("x", "", 1),)))
        self.assertEqual(Cond.between("", 3, 1).clauses, ((("", "", -3),), (("", "", 1),)))
        self.assertEqual(Cond.between("", 0, 0).clauses, ((("", "", 0),), (("", "", 0),)))
        self.assertFalse(any(Cond.between("x", 3, 1)({"x": n}) for n in range(6)))

    def test_equal(self):
        self.assertEqual(Cond.equal("x", "y").clauses, ((("x", "y", 0),), (("y", "x", 0),)))
        self.assertEqual(Cond.equal("x", "y", plus=2).clauses, ((("x", "y", 2),), (("y", "x", -2),)))
        self.assertEqual(Cond.equal("x", "", plus=-GREAT).clauses, ((("x", "", -GREAT),), (("", "x", GREAT),)))
        self.assertEqual([Cond.equal("x", "y", plus=2)({"x": n, "y": 1}) for n in range(5)], [n == 3 for n in range(5)])
        with self.assertRaises(TypeError):
            Cond.equal("x", "y", 2)

    def test_odd_equal(self):
        self.assertEqual(Cond.equal("x", "x", plus=3).clauses, ((("x", "x", 3),), (("x", "x", -3),)))
        self.assertEqual(Cond.equal("", "").clauses, ((("", "", 0),), (("", "", 0),)))
        self.assertEqual(Cond.equal("", "", plus=1).clauses, ((("", "", 1),), (("", "", -1),)))
        self.assertFalse(Cond.equal("x", "x", plus=3)({"x": 3}))

    def test_refused(self):
        for make, at in [
            (lambda: Cond.between("X", 1, 2), 0), (lambda: Cond.between(None, 1, 2), 0),
            (lambda: Cond.between(["x"], 1, 2), 0), (lambda: Cond.between("x", True, 2), 0),
            (lambda: Cond.between("x", "1", 2), 0), (lambda: Cond.between("x", None, 2), 0),
            (lambda: Cond.between("x", 1, False), 1), (lambda: Cond.between("x", 1, "2"), 1),
            (lambda: Cond.equal("x y", "y"), 0), (lambda: Cond.equal("x", 1), 0),
            (lambda: Cond.equal("x", "y", plus=True), 0), (lambda: Cond.equal("x", "y", plus=[]), 0),
        ]:
            with self.assertRaises(BadCond) as caught:
                make()
            self.assertEqual(caught.exception.clause, at)


class Implies(unittest.TestCase):

    def both(self, one, other, forth, back):
        self.assertIs(one.implies(other), forth)
        self.assertIs(other.implies(one), back)

    def test_ranges(self):
        self.both(Cond.between("x", 2, 3), Cond.between("x", 1, 3), True, False)
        self.both(Cond.between("x", 2, 3), Cond.between("x", 2, 3), True, True)
        self.both(Cond.between("x", 2, 3), Cond.between("x", 3, 4), False, False)
        self.both(Cond.between("x", 2, 3), Cond.between("y", 2, 3), False, False)
        self.both(Cond(), Cond.between("x", 2, 3), False, True)
        self.both(Cond(), Cond(), True, True)

    def test_chains(self):
        one = Cond((("x", "y", -1),), (("y", "z", -1),), (("z", "", 7),))
        self.assertTrue(one.implies(Cond((("x", "z", -2),))))
        self.assertFalse(one.implies(Cond((("x", "z", -3),))))
        self.assertTrue(one.implies(Cond((("x", "", 5),), (("y", "", 6),))))
        self.assertFalse(one.implies(Cond((("x", "", 5),), (("y", "", 5),))))
        self.assertFalse(one.implies(Cond((("", "x", 1000),))))

    def test_what_never_holds_implies_all(self):
        for one in [Cond.between("x", 3, 1), Cond((("", "", -1),)), Cond((("x", "x", -1),)),
                    Cond.equal("x", "y") & Cond((("x", "y", -1),))]:
            self.both(one, Cond.between("y", 3, 4), True, False)
            self.both(one, Cond(), True, False)
            self.both(one, Cond((("z", "z", -1),)), True, True)

    def test_what_always_holds_is_implied(self):
        self.both(Cond(), Cond((("x", "x", 0),), (("", "", 5),)), True, True)
        self.both(Cond(), Cond((("x", "y", 0), ("y", "x", -1))), True, True)
        self.both(Cond(), Cond((("x", "y", -1), ("y", "x", -1))), False, True)

    def test_two_literals(self):
        either = Cond((("x", "", -1), ("", "x", -1)))
        self.both(either, Cond((("x", "", 0), ("", "x", 0))), True, False)
        self.both(Cond.equal("x", "", plus=1), either, True, False)
        self.both(Cond((("", "x", 0),)) & either, Cond((("", "x", -1),)), True, True)
        self.both(either, Cond((("", "x", -1), ("x", "", -1))), True, True)
        self.both(either, Cond((("", "x", -1),)), False, True)
        self.both(Cond((("x", "y", 0), ("x", "z", 0)), (("y", "z", 0),)), Cond((("x", "z", 0),)), True, False)
        self.both(Cond((("x", "y", 0), ("x", "z", 0)), (("y", "z", 1),)), Cond((("x", "z", 0),)), False, False)

    def test_great_numbers(self):
        self.both(Cond((("x", "y", -GREAT),)), Cond((("x", "y", -GREAT + 1),)), True, False)
        self.both(Cond((("x", "y", GREAT),), (("y", "z", GREAT),)), Cond((("x", "z", 2 * GREAT),)), True, False)
        self.both(Cond((("x", "y", GREAT),), (("y", "z", GREAT),)), Cond((("x", "z", 2 * GREAT - 1),)), False, False)
        self.both(Cond.between("x", -GREAT, GREAT), Cond.between("x", -GREAT - 1, GREAT), True, False)
        self.both(Cond((("x", "", -GREAT), ("", "x", -GREAT))), Cond((("x", "", -1), ("", "x", -1))), True, False)

    def test_against_all_small_values(self):
        span = range(-4, 5)
        conds = [Cond.between("x", -1, 1), Cond((("x", "y", -1),)), Cond((("x", "y", 0), ("y", "", -1))),
                 Cond.between("x", 0, 2) & Cond.equal("x", "y"), Cond((("x", "", -1), ("", "y", -1))),
                 Cond((("y", "x", 1),), (("x", "", 0), ("", "x", -2)))]
        for one in conds:
            for other in conds:
                wanted = all(other({"x": x, "y": y}) for x in span for y in span if one({"x": x, "y": y}))
                self.assertEqual(one.implies(other), wanted, (one.clauses, other.clauses))

    def test_unchanged(self):
        one, other = Cond(ONE, TWO), Cond(TWO)
        one.implies(other)
        self.assertEqual((one.clauses, other.clauses), ((ONE, TWO), (TWO,)))


class Literals(unittest.TestCase):

    def test_each_in_each_place(self):
        for literal in literals_wrong():
            with self.assertRaises(BadCond):
                Cond((literal,))


if __name__ == "__main__":
    unittest.main()
