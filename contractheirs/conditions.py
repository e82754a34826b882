"""Conditions: a few clauses that all hold."""

from contractheirs.cases import decide, negated
from contractheirs.errors import BadCond, NoValue
from contractheirs.forms import is_clause, is_integer, is_literal_over_terms

MOST_CLAUSES = 4
MOST_LITERALS = 2


def _can_stand(thing):
    """Whether a thing is a clause of one or two literals over terms."""
    return is_clause(thing, MOST_LITERALS) and all([is_literal_over_terms(literal) for literal in thing])


def _first_wrong(clauses):
    """What Cond says of its arguments: -1, the index of the first wrong one, or None."""
    if len(clauses) > MOST_CLAUSES:
        return -1
    doubles = 0
    for at, clause in enumerate(clauses):
        if not _can_stand(clause):
            return at
        if len(clause) == 2:
            doubles += 1
        if doubles == 2:
            return at
    return None


def _minus(number):
    """The negative of an integer; other things stay, for Cond to refuse them."""
    return -number if is_integer(number) else number


def _worth(term, values):
    return 0 if term == "" else values[term]


def _holds(clause, values):
    return any([_worth(left, values) <= _worth(right, values) + number for left, right, number in clause])


def first_broken(clauses, values):
    """The index of the first clause that does not hold for a dict from terms to integers, or None."""
    for at, clause in enumerate(clauses):
        if not _holds(clause, values):
            return at
    return None


class Cond:
    """A condition: all of its clauses hold."""

    def __init__(self, *clauses):
        wrong = _first_wrong(clauses)
        if wrong is not None:
            raise BadCond(wrong)
        self.clauses = clauses
        self.terms = tuple(sorted({term for clause in clauses for one in clause for term in one[:2] if term != ""}))

    def __call__(self, values):
        """Whether the condition holds for a dict from terms to integers."""
        for clause in self.clauses:
            for left, right, _ in clause:
                for term in (left, right):
                    if term != "" and term not in values:
                        raise NoValue(term)
        return first_broken(self.clauses, values) is None

    def __and__(self, other):
        if not isinstance(other, Cond):
            return NotImplemented
        merged = []
        for clause in self.clauses + other.clauses:
            if clause not in merged:
                merged.append(clause)
        return Cond(*merged)

    def __eq__(self, other):
        return isinstance(other, Cond) and self.clauses == other.clauses

    def __len__(self):
        return len(self.clauses)

    @staticmethod
    def between(term, low, high):
        """The condition that a term is from low to high."""
        return Cond((("", term, _minus(low)),), ((term, "", high),))

    @staticmethod
    def equal(left, right, *, plus=0):
        """The condition that left is right and so much more."""
        return Cond(((left, right, plus),), ((right, left, _minus(plus)),))

    def implies(self, other):
        """Whether for all integers other holds if this condition holds."""
        for clause in other.clauses:
            word, _ = decide(self.clauses + negated(clause))
            if word == "values":
                return False
        return True
