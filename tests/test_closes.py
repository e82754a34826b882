"""[2.2]: closes."""

import unittest

from contractheirs.cases import closes, decide
from contractheirs.errors import NoClauses
from tests.support import GREAT, clauses_wrong, leaves_of, things

# 0 and 1 are a ring with 2 in the middle; 3 and 4 have two and three literals.
CLAUSES = [
    (("x", "y", -1),),
    (("y", "z", -1),),
    (("z", "x", 1),),
    (("z", "x", 1), ("z", "y", 0)),
    (("x", "z", 5), ("z", "x", 1), ("z", "z", -1)),
    (("x", "x", -1),),
    (("", "x", 0), ("x", "", 0)),
]
RING = ("cycle", ((0, 0), (1, 0), (2, 0)))
LOOP = ("cycle", ((5, 0),))
CASE = ("case", 3, (("cycle", ((3, 0), (0, 0), (1, 0))), ("cycle", ((1, 0), (3, 1)))))


class Closes(unittest.TestCase):

    def yes(self, tree, clauses=CLAUSES):
        self.assertIs(closes(clauses, tree), True, tree)

    def no(self, tree, clauses=CLAUSES):
        self.assertIs(closes(clauses, tree), False, tree)


class Rings(Closes):

    def test_rings(self):
        self.yes(RING)
        self.yes(LOOP)
        self.yes(("cycle", ((1, 0), (2, 0), (0, 0))))
        self.yes(("cycle", ((2, 0), (0, 0), (1, 0))))
        self.yes(RING, tuple(CLAUSES))

    def test_a_pick_may_come_twice(self):
        self.yes(("cycle", RING[1] * 2))
        self.yes(("cycle", ((5, 0), (5, 0))))
        self.yes(("cycle", ((5, 0), *RING[1])))

    def test_wrong_order(self):
        self.no(("cycle", ((1, 0), (0, 0), (2, 0))))
        self.no(("cycle", ((2, 0), (1, 0), (0, 0))))

    def test_no_ring(self):
        self.no(("cycle", ()))
        self.no(("cycle", ((0, 0),)))
        self.no(("cycle", ((0, 0), (1, 0))))
        self.no(("cycle", ((1, 0), (2, 0))))
        self.no(("cycle", ((0, 0), (2, 0))))
        self.no(("cycle", (*RING[1], (0, 0))))
        self.no(("cycle", ((0, 0), *RING[1])))
        self.no(("cycle", ((5, 0), (0, 0))))

    def test_sum(self):
        for last in (-1, 0, 1, 2, GREAT):
            clauses = [(("x", "y", GREAT),), (("y", "z", -GREAT),), (("z", "x", -last),)]
            self.assertIs(closes(clauses, RING), last > 0)
        self.no(("cycle", ((0, 0),)), [(("", "", 0),)])
        self.yes(("cycle", ((0, 0),)), [(("", "", -1),)])

    def test_indexes(self):
        for i in (-1, -2, -7, 7, 8, GREAT, -GREAT):
            self.no(("cycle", ((i, 0),)))
            self.no(("cycle", ((5, 0), (i, 0))))
            self.no(("cycle", ((5, i),)))
            self.no(("cycle", ((5, 0), (5, i))))
        self.no(("cycle", ((0, 0),)), [])
        self.no(("cycle", ((-1, 0),)), [(("x", "x", -1),)])
        self.no(("cycle", ((0, 1),)), [(("x", "x", -1),)])
        self.no(("cycle", ((0, -1),)), [(("x", "x", -1),)])

    def test_true_and_false_are_no_numbers(self):
        clauses = [(("x", "x", -1),), (("x", "x", -1),)]
        self.yes(("cycle", ((0, 0), (1, 0))), clauses)
        for pick in [(True, 0), (False, 0), (0, False), (1, False), (0, True)]:
            self.no(("cycle", (pick,)), clauses)
            self.no(("cycle", ((0, 0), pick)), clauses)
        self.no(("case", True, (LOOP,)), clauses)
        self.no(("case", False, (("cycle", ((0, 0),)),)), clauses)

    def test_picks_that_are_none(self):
        for thing in things() + [[5, 0], (5,), (5, 0, 0), (), ("5", 0), (5, "0"), (None, 0), (5, None), ([5], 0),
                                 ((5, 0),), (5, [0]), {5: 0}, (5, (0,)), ({}, {})]:
            self.no(("cycle", (thing,)))
            self.no(("cycle", ((5, 0), thing)))
            self.no(("cycle", (*RING[1], thing)))

    def test_rows_of_picks_that_are_none(self):
        for thing in things() + [[(5, 0)], {(5, 0): 1}, {(5, 0)}, (5, 0), iter([(5, 0)]), frozenset([(5, 0)])]:
            self.no(("cycle", thing))

    def test_literal_that_is_not_chosen(self):
        self.no(("cycle", ((3, 0), (0, 0), (1, 0))))
        self.no(("cycle", ((4, 2),)))


class Cases(Closes):

    def test_cases(self):
        self.yes(CASE)
        self.yes(("case", 3, (RING, RING)))
        self.yes(("case", 3, (LOOP, CASE[2][1])))

    def test_one_literal(self):
        self.yes(("case", 0, (RING,)))
        self.yes(("case", 5, (LOOP,)))
        self.yes(("case", 0, (("case", 1, (("case", 5, (LOOP,)),)),)))

    def test_one_literal_is_no_use_twice(self):
        self.no(("case", 0, (("case", 0, (RING,)),)))
        self.no(("case", 0, (("case", 1, (("case", 0, (LOOP,)),)),)))

    def test_cases_within_cases(self):
        leaf = ("cycle", ((4, 2),))
        inner = ("case", 4, (RING, ("cycle", ((4, 1), (0, 0), (1, 0))), leaf))
        self.yes(inner)
        self.yes(("case", 3, (inner, inner)))
        self.yes(("case", 3, (inner, CASE[2][1])))
        self.yes(("case", 4, (CASE, ("cycle", ((4, 1), (0, 0), (1, 0))), leaf)))
        self.yes(("case", 4, (CASE, CASE, CASE)))

    def test_clause_twice_one_within_the_other(self):
        self.no(("case", 3, (CASE, CASE)))
        self.no(("case", 3, (CASE, LOOP)))
        self.no(("case", 3, (LOOP, CASE)))
        self.no(("case", 3, (("case", 4, (CASE, LOOP, LOOP)), LOOP)))
        self.no(("case", 3, (("case", 4, (LOOP, LOOP, CASE)), LOOP)))

    def test_clause_twice_side_by_side(self):
        inner = ("case", 4, (LOOP, LOOP, ("cycle", ((4, 2),))))
        self.yes(("case", 3, (inner, inner)))
        self.yes(("case", 6, (("case", 3, (inner, inner)), CASE)))

    def test_chosen_in_another_part(self):
        first, second = CASE[2]
        self.no(("case", 3, (second, first)))
        self.no(("case", 3, (first, first)))
        self.no(("case", 3, (second, second)))

    def test_not_chosen_any_more(self):
        inner = ("case", 3, (LOOP, LOOP))
        for j in (0, 1):
            stale = ("cycle", ((3, 0), (0, 0), (1, 0))) if j == 0 else ("cycle", ((1, 0), (3, 1)))
            self.no(("case", 6, (inner, stale)))
            self.no(("case", 6, (stale, inner)))

    def test_number_of_parts(self):
        self.no(("case", 3, ()))
        self.no(("case", 3, (LOOP,)))
        self.no(("case", 3, (LOOP, LOOP, LOOP)))
        self.no(("case", 0, (LOOP, LOOP)))
        self.no(("case", 0, ()))
        self.no(("case", 4, (LOOP, LOOP)))
        self.no(("case", 4, CASE[2]))

    def test_indexes(self):
        for i in (-1, -4, 7, 100, GREAT, True, False, None, "3", (3,), [3], {}, b"3"):
            self.no(("case", i, (LOOP, LOOP)))
            self.no(("case", i, (LOOP,)))

    def test_parts_that_are_none(self):
        self.no(("case", 3, LOOP))
        for thing in things() + [[LOOP, LOOP], {0: LOOP, 1: LOOP}, (LOOP, LOOP)]:
            self.no(("case", 3, (thing,)))
            self.no(("case", 3, (thing, LOOP)))
            self.no(("case", 3, (LOOP, thing)))
            self.no(("case", 5, (thing,)))

    def test_one_part_that_is_spoilt(self):
        for at in range(3):
            parts = [LOOP, LOOP, LOOP]
            parts[at] = ("cycle", ((0, 0),))
            self.no(("case", 4, tuple(parts)))


class Anything(Closes):

    def test_things(self):
        for thing in things():
            self.no(thing)
            self.no(thing, [])
            self.no((thing,))
            self.no((thing, thing))
            self.no((thing, thing, thing))
            self.no(("cycle", thing, thing))
            self.no(("case", thing, thing))

    def test_words(self):
        for word in things() + ["Cycle", "CYCLE", "cycle ", "cycles", "case", "", "ring", b"cycle", ["cycle"], ("cycle",)]:
            if word != "cycle":
                self.no((word, RING[1]))
        for word in things() + ["Case", "cycle", "cases", b"case", ["case"], ("case",)]:
            self.no((word, 3, CASE[2]))

    def test_number_of_items(self):
        self.no(())
        self.no(("cycle",))
        self.no(("case",))
        self.no(("case", 3))
        self.no(("cycle", RING[1], RING[1]))
        self.no(("case", 3, CASE[2], ()))
        self.no((*RING, ()))

    def test_lists(self):
        self.no(list(RING))
        self.no(list(CASE))
        self.no(["cycle", ((5, 0),)])
        self.no(("cycle", [(5, 0)]))
        self.no(("cycle", ([5, 0],)))
        self.no(("case", 3, [LOOP, LOOP]))
        self.no(("case", 3, (list(LOOP), LOOP)))
        ring = ["cycle"]
        ring.append(ring)
        self.no(ring)

    def test_no_clauses(self):
        self.no(RING, [])
        self.no(CASE, ())

    def test_other_clauses(self):
        self.no(RING, CLAUSES[:2])
        self.no(RING, CLAUSES[1:])
        self.no(CASE, CLAUSES[:3])

    def test_nothing_is_changed(self):
        clauses = list(CLAUSES)
        closes(clauses, CASE)
        closes(clauses, ("case", 3, (CASE, CASE)))
        self.assertEqual(clauses, CLAUSES)


class Refused(unittest.TestCase):

    def refused(self, at, clauses, tree):
        with self.assertRaises(NoClauses) as caught:
            closes(clauses, tree)
        self.assertEqual(caught.exception.at, at)

    def test_ahead_of_the_tree(self):
        good = (("x", "x", -1),)
        for tree in (("cycle", ((0, 0),)), None, [], 7):
            for thing in things():
                self.refused(-1, thing, tree)
            self.refused(-1, [good] * 20001, tree)
            for thing in clauses_wrong():
                self.refused(1, [good, thing], tree)
                self.refused(0, (thing, good), tree)
            self.refused(1, [good, good * 7], tree)


class Decided(Closes):
    """Trees that decide returned, whole and spoilt."""

    def spoilt(self, tree):
        """The same tree with one thing changed, in each place."""
        if tree[0] == "cycle":
            word, picks = tree
            for at, (i, j) in enumerate(picks):
                for pick in [(i, j + 1), (i, -1), (-1, j), (i + 100, j), [i, j], (i,), (i, j, j), None]:
                    yield (word, picks[:at] + (pick,) + picks[at + 1:])
            yield (word, ())
            yield (word, list(picks))
            yield ("case", picks)
            if len(picks) > 1:
                yield (word, picks[1:])
        else:
            word, i, parts = tree
            yield (word, i, parts[1:])
            yield (word, i, parts + parts[:1])
            yield (word, i, list(parts))
            yield (word, -1, parts)
            yield (word, i + 100, parts)
            yield ("cycle", i, parts)
            yield (word, i, (tree,) + parts[1:])
            for at, part in enumerate(parts):
                for other in self.spoilt(part):
                    yield (word, i, parts[:at] + (other,) + parts[at + 1:])

    def test_spoilt(self):
        names = "abc"
        clauses = [(("", name, 0),) for name in names] + [((name, "", 1),) for name in names]
        clauses += [(("a", "b", -1), ("b", "a", -1)), (("b", "c", -1), ("c", "b", -1)), (("a", "c", -1), ("c", "a", -1))]
        word, tree = decide(clauses)
        self.assertEqual(word, "closed")
        self.yes(tree, clauses)
        self.assertGreater(leaves_of(clauses, tree), 2)
        many = 0
        for other in self.spoilt(tree):
            many += 1
            self.no(other, clauses)
        self.assertGreater(many, 50)


if __name__ == "__main__":
    unittest.main()
