"""Whether a claim must hold if some facts do."""

from contractheirs.cases import decide, negated


def decided(facts, claim):
    """What decide returns for a list of facts and the negation of a claim behind them."""
    if claim in facts:
        return ("closed", _tree_of_fact(facts.index(claim), len(facts), claim))
    return decide(facts + list(negated(claim)))


def _tree_of_fact(at, behind, claim):
    """The tree for a claim that is a fact itself: each literal makes a ring with its own negation."""
    rings = [("cycle", ((at, j), (behind + j, 0))) for j in range(len(claim))]
    return rings[0] if len(rings) == 1 else ("case", at, tuple(rings))


def judged(facts, claims):
    """Either (the index of the first claim that may fail, integers for which it does, None) or (None, None, trees)."""
    trees = []
    for at, claim in enumerate(claims):
        word, found = decided(facts, claim)
        if word == "values":
            return (at, found, None)
        trees.append(found)
    return (None, None, trees)
