"""[10.1], [10.2]: answer, unanswered and unanswered_facts."""

import random
import unittest
from itertools import product

from contractheirs.answers import answer, unanswered, unanswered_facts
from contractheirs.cases import decide
from contractheirs.classes import ClassDef, Method
from contractheirs.conditions import Cond
from contractheirs.errors import NoClass, NoMethod, NoValue
from contractheirs.libraries import Library
from tests.rows import HALT, NEVER, least, most, writing
from tests.support import GREAT, hold, terms_of, things

TWO = (("x", "int"), ("y", "int"))


def of(*post, pre=None, params=TWO, **more):
    """A library with a class c, whose method m has a postcondition of some clauses."""
    others = more.pop("others", ())
    return Library(writing("c", pre=pre, post=Cond(*post), params=params, body=HALT, **more), *others)


def asked(values, *post):
    return answer(of(*post), "c", "m", values)


def slow(post, values):
    """The answer, by trying: all numbers are small, so nothing changes far away."""
    def holds(result):
        return hold(post, {**values, "result": result})
    near = [result for result in range(-200, 201) if holds(result)]
    if not near:
        return None
    if not holds(-1000):
        return near[0]
    return max(near) if not holds(1000) else [result for result in near if result >= 0][0]


def random_post(rng):
    terms = ["x", "y", "", "result", "result", "result"]
    clauses = []
    double = rng.random() < 0.5
    for _ in range(rng.randrange(5)):
        many = 2 if double and rng.random() < 0.6 else 1
        double = double and many == 1
        clauses.append(tuple((rng.choice(terms), rng.choice(terms), rng.randrange(-4, 5)) for _ in range(many)))
    return clauses


class Answers(unittest.TestCase):

    def test_least(self):
        self.assertEqual(asked({"x": 4}, (("x", "result", -1),)), 5)
        self.assertEqual(asked({"x": 4}, (("x", "result", -1),), (("", "result", -9),)), 9)
        self.assertEqual(asked({"x": 4}, (("x", "result", -1),), (("result", "", 7),)), 5)
        self.assertEqual(asked({"x": -50}, (("x", "result", -1),)), -49)

    def test_greatest(self):
        self.assertEqual(asked({"x": 4}, (("result", "x", -6),)), -2)
        self.assertEqual(asked({"x": 4}, (("result", "x", 3),), (("result", "", 5),)), 5)

    def test_from_zero(self):
        self.assertEqual(asked({}), 0)
        self.assertEqual(asked({"x": 1}, (("x", "", 1),)), 0)
        # At most -3, or at least 4.
        self.assertEqual(asked({}, (("result", "", -3), ("", "result", -4))), 4)
        self.assertEqual(asked({}, (("result", "", 3), ("", "result", -4))), 0)
        self.assertEqual(asked({}, (("result", "", 30), ("", "result", 4))), 0)
        self.assertEqual(asked({}, (("", "result", -4), ("result", "", -3))), 4)
        self.assertEqual(asked({}, (("result", "", -1), ("", "result", -1))), 1)

    def test_none(self):
        self.assertIs(asked({"x": 4}, (("x", "result", 0),), (("result", "", 3),)), None)
        self.assertEqual(asked({"x": 3}, (("x", "result", 0),), (("result", "", 3),)), 3)
        self.assertIs(asked({"x": 4}, (("x", "", 3),)), None)
        self.assertIs(asked({}, NEVER), None)
        self.assertIs(asked({}, (("result", "result", -1),)), None)
        self.assertEqual(asked({}, (("result", "result", 0),)), 0)

    def test_two_literals(self):
        either = (("result", "x", -2), ("y", "result", -2))
        self.assertEqual(asked({"x": 5, "y": 9}, either, (("", "result", 0),)), 0)
        self.assertEqual(asked({"x": 1, "y": 9}, either, (("", "result", 0),)), 11)
        self.assertEqual(asked({"x": 1, "y": 9}, either, (("result", "", 10),)), -1)
        self.assertEqual(asked({"x": 1, "y": 8}, either, (("result", "", 10),)), 10)
        self.assertIs(asked({"x": 1, "y": 9}, either, (("", "result", 0),), (("result", "", 10),)), None)
        # One literal that does not speak of the result.
        either = (("x", "", 3), ("result", "", -5))
        self.assertEqual(asked({"x": 3}, either), 0)
        self.assertEqual(asked({"x": 4}, either), -5)
        self.assertEqual(asked({"x": 3}, either, (("result", "", 7),)), 7)

    def test_great_numbers(self):
        self.assertEqual(asked({"x": GREAT}, (("x", "result", -GREAT),)), 2 * GREAT)
        self.assertEqual(asked({"x": -GREAT}, (("result", "x", -GREAT),)), -2 * GREAT)
        self.assertIs(asked({"x": GREAT}, (("x", "result", 0),), (("result", "", GREAT - 1),)), None)
        self.assertEqual(asked({"x": GREAT}, (("x", "result", 0),), (("result", "", GREAT),)), GREAT)

    def test_by_trying(self):
        rng = random.Random(1)
        kinds = {}
        for _ in range(1500):
            post = random_post(rng)
            values = {"x": rng.randrange(-5, 6), "y": rng.randrange(-5, 6)}
            wanted = slow(post, values)
            self.assertEqual(asked(values, *post), wanted, (post, values))
            kinds[wanted is None] = kinds.get(wanted is None, 0) + 1
        self.assertGreater(min(kinds.values()), 100)

    def test_fields(self):
        library = of((("p.f", "result", 1),), (("self.g", "result", 0),), params=(("p", "d"),), fields=("g",),
                     others=[ClassDef("d", fields=("f",))])
        self.assertEqual(answer(library, "c", "m", {"p.f": 4, "self.g": 1}), 3)
        self.assertEqual(answer(library, "c", "m", {"p.f": 4, "self.g": 7, "result": 0, "zz": None, "": 5}), 7)

    def test_no_value(self):
        library = of((("result", "y", 1), ("x", "", 3)), (("", "x", 2),), (("self.f", "result", 0),), fields=("f",))
        for values, term in [({}, "y"), ({"x": 1}, "y"), ({"y": 1}, "x"), ({"x": 1, "y": 1}, "self.f"), ({"result": 1}, "y"),
                             ({"x": 1, "self.f": 2}, "y")]:
            with self.assertRaises(NoValue) as caught:
                answer(library, "c", "m", values)
            self.assertEqual(caught.exception.term, term)
        # Terms of the precondition are not asked.
        self.assertEqual(answer(of((("x", "result", 0),), pre=Cond(most("y", 3))), "c", "m", {"x": 1}), 1)
        # Nor what is never looked at to find the answer: there all terms have to be known.
        with self.assertRaises(NoValue):
            answer(of(NEVER, (("x", "result", 0),)), "c", "m", {})

    def test_the_values_stay(self):
        values = {"x": 4}
        asked(values, (("x", "result", -1),))
        self.assertEqual(values, {"x": 4})


class Unanswered(unittest.TestCase):

    def told(self, library, name="c", method="m"):
        """What unanswered returns; it is looked at by the facts, and by the answer that is not there."""
        facts = unanswered_facts(library, name, method)
        found = unanswered(library, name, method)
        its = [one for one in library[name].methods if one.name == method][0]
        if found is None:
            self.assertEqual(decide(facts)[0], "closed")
            return None
        self.assertIs(type(found), dict)
        self.assertTrue(hold(facts, found))
        self.assertIs(answer(library, name, method, found), None)
        self.assertTrue(its.pre(found))
        params = [("self", name)] + [param for param in its.params if param[1] != "int"]
        wanted = terms_of(its.post.clauses + its.pre.clauses) - {"result"}
        for param, kind in params:
            wanted |= {term.replace("self", param) for term in terms_of(library.where_of(kind))}
            values = {term.replace(param + ".", "self."): number for term, number in found.items() if term.startswith(param + ".")}
            self.assertTrue(hold(library.where_of(kind), values))
        self.assertEqual(set(found), wanted)
        self.assertEqual({type(number) for number in found.values()} - {int}, set())
        return found

    def test_by_one_number(self):
        for number in (2, 3, 4):
            library = of((("x", "result", 0),), (("result", "y", 3),), pre=Cond((("x", "y", number),)))
            self.assertIs(self.told(library) is None, number <= 3)

    def test_nothing_to_answer(self):
        self.assertIs(self.told(of()), None)
        self.assertIs(self.told(of((("x", "result", 0),))), None)
        self.assertIs(self.told(of((("x", "y", 0),), pre=Cond((("x", "y", 0),)))), None)
        found = self.told(of((("x", "y", 0),)))
        self.assertGreater(found["x"], found["y"])
        self.assertEqual(self.told(of(NEVER)), {})
        self.assertIs(self.told(of(NEVER, pre=Cond(NEVER))), None)

    def test_keys(self):
        # y stands in a literal that is never negated, and f in a where alone; g stands nowhere.
        library = of((("x", "result", 0),), (("x", "", 5),), (("result", "y", 0), ("x", "", 5)), pre=Cond((("self.h", "", 3),)),
                     fields=("f", "g", "h"), where=Cond(least("self.f", 3)), params=TWO + (("p", "d"),),
                     others=[ClassDef("d", fields=("k", "l"), where=Cond(most("self.k", 1)))])
        found = self.told(library)
        self.assertEqual(set(found), {"x", "y", "self.h", "self.f", "p.k"})

    def test_the_wheres_help(self):
        for number in (4, 5):
            library = of((("p.f", "result", 0),), (("result", "self.g", 0),), fields=("g",), where=Cond(least("self.g", 5)),
                         params=(("p", "d"),), others=[ClassDef("d", fields=("f",), where=Cond(most("self.f", number + 1)))])
            self.assertIs(self.told(library) is None, number == 4)

    def test_random(self):
        rng = random.Random(2)
        kinds = {True: 0, False: 0}
        for _ in range(500):
            post = random_post(rng)
            pre = Cond(*[((rng.choice(["x", "y", ""]), rng.choice(["x", "y", ""]), rng.randrange(-1, 4)),)
                         for _ in range(rng.randrange(4))])
            found = self.told(of(*post, pre=pre))
            kinds[found is None] += 1
            near = [{"x": x, "y": y} for x, y in product(range(-9, 10, 3), repeat=2) if pre({"x": x, "y": y})]
            if found is None:
                for values in near:
                    self.assertIsNot(asked(values, *post), None)
        self.assertGreater(min(kinds.values()), 50)

    def test_new_each_time(self):
        library = of((("x", "y", 0),))
        unanswered(library, "c", "m").clear()
        self.assertEqual(set(unanswered(library, "c", "m")), {"x", "y"})
        unanswered_facts(library, "c", "m").clear()
        self.assertTrue(unanswered_facts(library, "c", "m"))


class Facts(unittest.TestCase):

    def told(self, library, *wanted):
        """The facts, whatever their order and that of the literals."""
        found = unanswered_facts(library, "c", "m")
        self.assertIs(type(found), list)
        self.assertEqual({frozenset(clause) for clause in found}, {frozenset(clause) for clause in wanted})
        for clause in found:
            self.assertIs(type(clause), tuple)

    def test_no_clauses(self):
        self.told(of(), NEVER)

    def test_one_side(self):
        self.told(of((("x", "result", 3),)), NEVER)
        self.told(of((("result", "x", 3),), (("result", "y", 3),)), NEVER)

    def test_both_ends(self):
        self.told(of((("x", "result", 3),), (("result", "y", 4),)), (("y", "x", -8),))
        self.told(of((("", "result", 3),), (("result", "", 4),)), (("", "", -8),))
        # Each lower one with each upper one.
        self.told(of((("x", "result", 1),), (("y", "result", 2),), (("result", "x", 10),), (("result", "", 20),)),
                  (("x", "x", -12), ("", "x", -22), ("x", "y", -13), ("", "y", -23)))

    def test_without_the_result(self):
        self.told(of((("x", "y", 3),)), (("y", "x", -4),))
        self.told(of((("x", "y", 3),), (("y", "", 2),)), (("y", "x", -4), ("", "y", -3)))
        self.told(of((("x", "y", 3),), (("x", "result", 2),)), (("y", "x", -4),))

    def test_result_on_both_sides(self):
        self.told(of((("result", "result", 3),)), (("", "", -4),))
        self.told(of((("result", "result", -3),), (("x", "result", 1),), (("result", "y", 1),)), (("", "", 2), ("y", "x", -3)))

    def test_each_pick(self):
        self.told(of((("x", "result", 1), ("y", "", 5)), (("result", "y", 2),)), (("y", "x", -4),), (("", "y", -6),))
        self.told(of((("x", "result", 1), ("result", "y", 5))), NEVER)
        self.told(of((("x", "result", 1), ("y", "x", 5))), NEVER, (("x", "y", -6),))
        self.told(of((("x", "y", 0), ("x", "y", 0))), (("y", "x", -1),))

    def test_wheres_and_precondition(self):
        library = of((("x", "y", 3),), pre=Cond(most("x", 9), (("y", "", 1), ("x", "p.f", 2))), params=TWO + (("p", "d"),),
                     fields=("g",), where=Cond(least("self.g", 1)), bases=("b",), others=[
                         ClassDef("d", fields=("f",), where=Cond(most("self.f", 7))), ClassDef("b", where=Cond((("", "", 0),)))])
        self.told(library, (("", "", 0),), least("self.g", 1), most("p.f", 7), most("x", 9), (("y", "", 1), ("x", "p.f", 2)),
                  (("y", "x", -4),))


class Refused(unittest.TestCase):

    def asks(self):
        return [lambda *of_what: answer(*of_what, {}), unanswered, unanswered_facts]

    def refused(self, error, key, value, *arguments):
        for ask in self.asks():
            with self.assertRaises(error) as caught:
                ask(*arguments)
            self.assertIs(getattr(caught.exception, key), value)

    def test_no_class(self):
        library = of((("x", "result", 0),))
        for thing in things() + [[], {}, "zz", ["c"]]:
            self.refused(NoClass, "name", thing, library, thing, [])

    def test_no_method(self):
        others = [ClassDef("b", ("c",)), ClassDef("d", methods=(Method("m", (), "c", body=HALT),))]
        library = of((("x", "result", 0),), others=others)
        for thing in things() + [[], {}, "zz", ["m"]]:
            self.refused(NoMethod, "method", thing, library, "c", thing)
        # Only inherited, or with another result.
        for name in ("b", "d"):
            self.refused(NoMethod, "method", "m", library, name, "m")


if __name__ == "__main__":
    unittest.main()
