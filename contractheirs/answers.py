"""Results for postconditions, and what leaves a postcondition without any.

A pick has one literal from each clause of a postcondition.
"""

from contractheirs.cases import decide
from contractheirs.errors import NoMethod, NoValue
from contractheirs.heirs import NEVER, param_wheres
from contractheirs.paths import written_method

RESULT = "result"


def _asked_method(library, name, method):
    """The method of this name that a class writes, if its result is an integer; raises NoClass or NoMethod."""
    found = written_method(library, name, method)
    if found.result != "int":
        raise NoMethod(method)
    return found


def _terms(clauses):
    """The terms of some clauses but "" and result, as they come."""
    terms = [term for clause in clauses for literal in clause for term in literal[:2]]
    return [term for term in terms if term not in ("", RESULT)]


def _picks(clauses):
    found = [()]
    for clause in clauses:
        found = [pick + (literal,) for pick in found for literal in clause]
    return found


def _range(pick, values):
    """The least and the greatest result for which a pick holds, each None if there is none; None if it never does."""
    low = None
    high = None
    for left, right, number in pick:
        # Where result stands on both sides, it does not matter what it is.
        least = values.get(left, 0) - number
        most = values.get(right, 0) + number
        if left != RESULT and right == RESULT:
            low = least if low is None else max(low, least)
        elif left == RESULT and right != RESULT:
            high = most if high is None else min(high, most)
        elif values.get(left, 0) > most:
            return None
    return None if low is not None and high is not None and low > high else (low, high)


def _least_from_zero(ranges):
    found = []
    for low, high in ranges:
        least = 0 if low is None else max(low, 0)
        if high is None or least <= high:
            found.append(least)
    return min(found)


def answer(library, name, method, values):
    """The least result that lets a postcondition hold, else the greatest, else the least one from 0 on, else None."""
    post = _asked_method(library, name, method).post
    for term in _terms(post.clauses):
        if term not in values:
            raise NoValue(term)
    known = {term: values[term] for term in _terms(post.clauses)}
    found = [_range(pick, known) for pick in _picks(post.clauses)]
    ranges = [one for one in found if one is not None]
    if not ranges:
        return None
    lows = [low for low, _ in ranges]
    highs = [high for _, high in ranges]
    if None not in lows:
        return min(lows)
    return max(highs) if None not in highs else _least_from_zero(ranges)


def _never_together(pick):
    """The clause that says that the literals of a pick do not hold together for any result."""
    found = []
    for left, right, number in pick:
        if left == RESULT and right == RESULT:
            found.append(("", "", -number - 1))
        elif left != RESULT and right != RESULT:
            found.append((right, left, -number - 1))
    lows = [literal for literal in pick if literal[1] == RESULT and literal[0] != RESULT]
    highs = [literal for literal in pick if literal[0] == RESULT and literal[1] != RESULT]
    for left, _, number in lows:
        found.extend([(right, left, -number - plus - 1) for _, right, plus in highs])
    return tuple(found) if found else NEVER


def _unanswered_facts(library, name, method):
    found = library.where_of(name) + param_wheres(library, method, "") + list(method.pre.clauses)
    return found + [_never_together(pick) for pick in _picks(method.post.clauses)]


def unanswered_facts(library, name, method):
    """The clauses that say that there is no answer where a method may be called."""
    return _unanswered_facts(library, name, _asked_method(library, name, method))


def unanswered(library, name, method):
    """Integers for which a method may be called and has no answer, None if there are none."""
    its = _asked_method(library, name, method)
    facts = _unanswered_facts(library, name, its)
    word, found = decide(facts)
    if word == "closed":
        return None
    # Terms of the postcondition of which the facts say nothing may be anything.
    for term in _terms(its.post.clauses):
        found.setdefault(term, 0)
    return found
