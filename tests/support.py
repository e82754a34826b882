"""What several tests need: things of all kinds, and a checker of trees and values of its own."""

from contractheirs import errors
from contractheirs.checks import BodyCheck, CallCheck, Check, HeirEntry, HeirExit, NewCheck
from contractheirs.classes import ClassDef, Method
from contractheirs.conditions import Cond
from contractheirs.libraries import Library
from contractheirs.slots import Slot

GREAT = 10 ** 100 - 1

VALUED = {
    "BadCond": ("clause",),
    "NoValue": ("term",),
    "NoClauses": ("at",),
    "BadLibrary": ("at", "why"),
    "NoClass": ("name",),
    "NoMethod": ("method",),
    "NoSlot": ("slot",),
    "BadBody": ("at", "why"),
    "NoSite": ("place",),
    "NoTape": ("tape",),
    "NoSteps": ("steps",),
    "NoChecks": ("without",),
    "NoDuty": ("duty",),
    "Unkept": ("duty",),
    "BadText": ("row",),
    "Breach": ("kind", "blamed", "side", "of", "slot", "site", "numbers", "clause", "earlier"),
}


def things():
    """Objects of many kinds: none of them is a clause, a literal, a list of clauses or a tree."""
    return [
        None, True, False, 0, 1, -1, GREAT, 2j, "", "x", "ab", "abc", "cycle", b"", b"abc", bytearray(b"abc"),
        memoryview(b"abc"), {}, {0: 1}, {"x", "y", "z"}, frozenset([1]), range(3), slice(1, 2, 3), NotImplemented, ...,
        len, int, tuple, things, lambda: 0, iter([1, 2, 3]), (n for n in (1, 2, 3)), object(), zip([1], [2]),
        ValueError("x"), Cond(), Cond((("x", "y", 1),)), Cond, errors.BadCond(0), errors.TooLong("x"),
        errors.ContractError, Method("m", (), "int", body=("halt",)), ClassDef("a"), ClassDef, Slot("call", "a", "m"),
        Library(), Check(), CallCheck(1), NewCheck(1), BodyCheck(1), HeirEntry(1, 2), HeirExit(1, 2, 3),
    ]


def literals_wrong():
    """Things that are no literals, whatever strings may be terms."""
    return things() + [
        (), ("x",), ("x", "y"), ("x", "y", 1, 2), ["x", "y", 1], ("x", "y", "z"), ("x", "y", True), ("x", "y", False),
        ("x", "y", None), ("x", "y", [1]), ("x", "y", {}), (1, "y", 1), ("x", 1, 1), (None, "y", 1), ("x", None, 1),
        (["x"], "y", 1), ("x", ["y"], 1), ({}, "y", 1), (b"x", "y", 1), ("x", b"y", 1), (("x",), "y", 1),
        ("x", "y", (1,)), ("x", "y", 1j), ("x", "y", "1"), (1, "x", "y"), ("x", "y", Cond()), (Cond(), "y", 1),
    ]


def clauses_wrong():
    """Things that are no clauses, whatever strings may be terms."""
    good = ("x", "y", 1)
    found = things() + [(), [], [good], {good: 1}, good, ((good,),), ([good],), (good, [good]), (good, None)]
    for literal in literals_wrong():
        found.extend([(literal,), (good, literal), (literal, good)])
    return found


def hold(clauses, found):
    """Whether all clauses hold for the values of terms."""
    values = dict(found)
    values[""] = 0
    return all(any(values[a] <= values[b] + n for a, b, n in clause) for clause in clauses)


def terms_of(clauses):
    return {term for clause in clauses for literal in clause for term in literal[:2]} - {""}


def leaves_of(clauses, tree, chosen=None):
    """The number of rings of a closed tree, read as the document says it; fails if it is none."""
    chosen = chosen or {}
    assert isinstance(tree, tuple)
    if tree[0] == "cycle":
        word, picks = tree
        for i, j in picks:
            assert 0 <= i and (chosen[i] == j if len(clauses[i]) > 1 else j == 0)
        ring = [clauses[i][j] for i, j in picks]
        for one, following in zip(ring, ring[1:] + ring[:1]):
            assert one[1] == following[0]
        assert ring and sum(one[2] for one in ring) < 0
        return 1
    word, i, parts = tree
    assert word == "case" and i >= 0 and i not in chosen and len(parts) == len(clauses[i])
    return sum(leaves_of(clauses, part, {**chosen, i: j}) for j, part in enumerate(parts))
