"""The ways through a body to a site."""

from contractheirs.bodies import sites
from contractheirs.cases import negated
from contractheirs.classes import written
from contractheirs.errors import NoMethod, NoSite
from contractheirs.forms import is_integer
from contractheirs.heirs import param_wheres
from contractheirs.spots import call_worths, first_spot, new_worths
from contractheirs.terms import all_put_in, put_in, taken_as, wheres_as


class Event:
    """What comes into a body from outside: a number of the tape, or what a call or next leads to.

    term is what its variable is called in the facts, kind its kind. For a number of the tape slot and known are None;
    else they are the slot and what is known of the object. entry is None unless a call or next breaches;
    then it has the clauses of all preconditions that are asked.
    """

    def __init__(self, term, kind, slot, known, entry):
        self.term = term
        self.kind = kind
        self.slot = slot
        self.known = known
        self.entry = entry


def written_method(library, name, method):
    """The method of this name that a class writes; raises NoClass or NoMethod."""
    found = written(library[name], method)
    if found is None:
        raise NoMethod(method)
    return found


def site_method(library, name, method, place):
    """The method whose body has a site at a place; raises NoClass, NoMethod or NoSite."""
    found = written_method(library, name, method)
    places = [site[2] for site in sites(library, name, method)]
    if not isinstance(place, tuple) or not all([is_integer(one) for one in place]) or place not in places:
        raise NoSite(place)
    return found


def site_spot(library, owner, method, place):
    """The spot of a site, where nothing was gone through yet."""
    spot = first_spot(library, owner, method)
    for digit in place:
        spot = spot.part(digit, ())
    return spot


def _same(term, pair):
    """The two clauses that say that a term is a pair (term, number)."""
    other, number = pair
    return [((term, other, number),), ((other, term, -number),)]


class Walk:
    """Goes all ways through the body of a method that a class writes to the place of a site."""

    def __init__(self, lines, owner, method, place):
        library = lines.library
        self.lines = lines
        self.library = library
        self.place = place
        start = first_spot(library, owner, method)
        facts = library.where_of(owner) + param_wheres(library, method, "") + list(method.pre.clauses)
        self.waiting = [start.reached(start, facts, [])]

    def following(self):
        """The spot of the site at the end of the next way, or None if all were gone."""
        while self.waiting:
            spot = self.waiting.pop()
            if spot.place == self.place:
                return spot
            self.waiting.extend(self._onward(spot))
        return None

    def _onward(self, spot):
        """The spots to which the ways go from a statement; first parts that are going to be left are gone all over."""
        word = spot.statement[0]
        if word == "let":
            return self._behind_let(spot)
        turns = [0, 1] if spot.left else [self.place[len(spot.place)]]
        if word == "if":
            return [spot.part(turn, spot.left).reached(spot, self._branch(spot, turn), []) for turn in turns]
        if word != "try":
            return []
        left = spot.left
        if 1 in turns:
            left = left + (spot.part(1, left),)
        return [spot.part(0, left).reached(spot, [], [])]

    def _branch(self, spot, turn):
        """What holds in a branch of an if."""
        left, right, number = spot.statement[1]
        ahead, _ = spot.pair((left, 0))
        behind, plus = spot.pair((right, number))
        clause = ((ahead, behind, plus),)
        return [clause] if turn == 0 else list(negated(clause))

    def _behind_let(self, spot):
        """The rest of a let, and the second parts to which breaches lead from here."""
        word = spot.act()[0]
        events = [self._event(spot, False)] if word in ("ask", "call", "next") else []
        found = [spot.part(0, spot.left).reached(spot, self._facts(spot), events)]
        if spot.left and word in ("call", "next"):
            found.append(spot.left[-1].reached(spot, [], [self._event(spot, True)]))
        if spot.left and word == "new":
            found.extend([spot.left[-1].reached(spot, refusal, []) for refusal in self._refusals(spot)])
        return found

    def _event(self, spot, breaches):
        act = spot.act()
        term = spot.own_stem()
        if act[0] == "ask":
            return Event(term, "int", None, None, None)
        entry = None
        if breaches:
            worths = call_worths(spot)
            entry = [put_in(clause, worths) for rung in self._rungs(spot) for clause in rung.method.pre.clauses]
        return Event(term, spot.asked_method().result, spot.asked_slot(), spot.sight(), entry)

    def _rungs(self, spot):
        """The line of what is known of the object that a call or next asks."""
        return self.lines.rungs_of(spot.asked_slot(), spot.sight().known)

    def _facts(self, spot):
        """What holds behind a let that did not breach."""
        act = spot.act()
        if act[0] == "int":
            return _same(spot.own_stem(), spot.pair(act[1:]))
        if act[0] == "new":
            return self._made(spot, act[1])
        if act[0] in ("call", "next"):
            return self._given_back(spot)
        return []

    def _made(self, spot, name):
        stem = spot.own_stem()
        worths = new_worths(spot)
        found = wheres_as(self.library, name, stem)
        for field in self.library.fields_of(name):
            found.extend(_same(stem + "." + field, worths["self." + field]))
        return found

    def _given_back(self, spot):
        kind = spot.asked_method().result
        worths = call_worths(spot)
        worths.update(taken_as(self.library, "result", kind, spot.own_stem()))
        found = wheres_as(self.library, kind, spot.own_stem())
        for rung in self._rungs(spot):
            found.extend(all_put_in(rung.method.pre.clauses, worths))
            found.extend(all_put_in(rung.method.post.clauses, worths))
        return found

    def _refusals(self, spot):
        """What holds if a new breaches: a list of clauses for each clause of the wheres that may be the first one."""
        clauses = all_put_in(self.library.where_of(spot.act()[1]), new_worths(spot))
        return [clauses[:at] + list(negated(clause)) for at, clause in enumerate(clauses)]
