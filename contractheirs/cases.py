"""Clauses of literals left <= right + number: integers for them, or closed trees."""

from contractheirs.errors import NoClauses
from contractheirs.forms import is_clause, is_integer
from contractheirs.problems import Problem

MOST_CLAUSES = 20000
MOST_LITERALS = 6
# Stands for a literal where a case ends.
END = -1


def _check_clauses(clauses):
    """Raises NoClauses if a thing is no list or tuple of clauses."""
    if not isinstance(clauses, (list, tuple)) or len(clauses) > MOST_CLAUSES:
        raise NoClauses(-1)
    for at, clause in enumerate(clauses):
        if not is_clause(clause, MOST_LITERALS):
            raise NoClauses(at)


def decide(clauses):
    """Returns ("values", a dict of integers that let all clauses hold) or ("closed", a tree)."""
    _check_clauses(clauses)
    return Problem(clauses).answer()


def negated(clause):
    """The clauses that say that a clause does not hold."""
    _check_clauses([clause])
    return tuple([((right, left, -number - 1),) for left, right, number in clause])


def closes(clauses, tree):
    """Whether an object is a closed tree for clauses."""
    _check_clauses(clauses)
    chosen = {}
    # A row is a clause, one of its literals and the part for it, or ends the case of the clause.
    rows = _opened(clauses, chosen, tree)
    if rows is None:
        return False
    while rows:
        index, literal, part = rows.pop()
        if literal == END:
            del chosen[index]
        else:
            chosen[index] = literal
            below = _opened(clauses, chosen, part)
            if below is None:
                return False
            rows.extend(below)
    return True


def _opened(clauses, chosen, tree):
    """The rows of a tree: those of a case, none for a ring, and None if it may not stand here."""
    if not isinstance(tree, tuple) or not tree or not isinstance(tree[0], str):
        return None
    if tree[0] == "case" and len(tree) == 3 and _is_case(clauses, chosen, tree[1], tree[2]):
        rows = [(tree[1], END, None)]
        rows.extend([(tree[1], j, part) for j, part in enumerate(tree[2])])
        return rows
    if tree[0] == "cycle" and len(tree) == 2 and _is_ring(clauses, chosen, tree[1]):
        return []
    return None


def _is_case(clauses, chosen, index, parts):
    """Whether a case of a clause may stand here, whatever its parts are."""
    if not is_integer(index) or not 0 <= index < len(clauses) or index in chosen:
        return False
    return isinstance(parts, tuple) and len(parts) == len(clauses[index])


def _is_ring(clauses, chosen, picks):
    """Whether picks go round over literals that may be used here, and the sum is below 0."""
    if not isinstance(picks, tuple) or not picks:
        return False
    start = None
    at = None
    total = 0
    for pick in picks:
        literal = _picked(clauses, chosen, pick)
        if literal is None:
            return False
        left, right, number = literal
        if start is None:
            start = left
        elif left != at:
            return False
        at = right
        total += number
    return at == start and total < 0


def _picked(clauses, chosen, pick):
    """The literal of a pair (i, j), if it is alone in its clause or chosen; else None."""
    if not isinstance(pick, tuple) or len(pick) != 2:
        return None
    index, j = pick
    if not is_integer(index) or not is_integer(j) or not 0 <= index < len(clauses):
        return None
    clause = clauses[index]
    allowed = 0 if len(clause) == 1 else chosen.get(index, END)
    return clause[j] if j == allowed and j != END else None
