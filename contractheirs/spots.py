"""Where a way through a body has come to, and what conditions say there."""

from contractheirs.scopes import method_scope
from contractheirs.slots import Slot
from contractheirs.statements import act_of, handed, parts_of
from contractheirs.terms import all_put_in, taken_as


class Spot:
    """A statement and its place, what is known there, and what the way went through.

    stems has what each variable is called in the facts. left has a spot for each try of which the way is going to
    leave the first part by a breach: that of the second part, the innermost one last. events are what came
    into the body from outside.
    """

    def __init__(self, scope, stems, place, statement, left):
        self.scope = scope
        self.stems = stems
        self.place = place
        self.statement = statement
        self.left = left
        self.facts = []
        self.events = []

    def reached(self, ahead, facts, events):
        """This spot behind what the way went through up to another one, and some more."""
        spot = Spot(self.scope, self.stems, self.place, self.statement, self.left)
        spot.facts = ahead.facts + facts
        spot.events = ahead.events + events
        return spot

    def part(self, at, left):
        """The spot of a part of the statement, where nothing was gone through yet."""
        stems = self.stems
        if self.statement[0] == "let":
            stems = dict(stems)
            stems[self.statement[1]] = self.own_stem()
        scope = self.scope.behind(self.statement)
        return Spot(scope, stems, self.place + (at,), parts_of(self.statement)[at], left)

    def act(self):
        """The expression of a let, else the statement."""
        return act_of(self.statement)

    def own_stem(self):
        """What the variable of the let is called in the facts."""
        name = self.statement[1]
        act = self.act()
        if act[0] == "as":
            return self.stems[act[1]]
        return "".join([str(digit) for digit in self.place]) + ":" + name if self.left else name

    def pair(self, value):
        """A value, with what its term is called in the facts."""
        term, number = value
        variable, dot, field = term.partition(".")
        return ("" if term == "" else self.stems[variable] + dot + field, number)

    def target(self):
        """The variable of the object that a call or next asks."""
        act = self.act()
        return act[1] if act[0] == "call" else "self"

    def sight(self):
        """What is known of the object that a call or next asks."""
        return self.scope.seen(self.target())

    def asked_slot(self):
        """The slot of a call or next."""
        act = self.act()
        if act[0] == "call":
            return Slot("call", self.sight().view, act[2])
        return Slot("next", self.scope.owner, self.scope.method.name)

    def asked_method(self):
        """The method that a call or next asks for, with the parameters and the result of all that may answer."""
        return self.scope.asked(self.act())


def first_spot(library, owner, method):
    """The spot at which the body of a method begins, where nothing was gone through yet."""
    scope = method_scope(library, owner, method)
    return Spot(scope, {variable: variable for variable in scope.variables}, (), method.body, ())


def call_worths(spot):
    """The worths of the terms that are known at the entry, for a call or next."""
    library = spot.scope.library
    worths = taken_as(library, "self", spot.sight().known, spot.stems[spot.target()])
    for param, item in zip(spot.asked_method().params, handed(spot.act())):
        name, kind = param
        if isinstance(item, str):
            worths.update(taken_as(library, name, kind, spot.stems[item]))
        else:
            worths[name] = spot.pair(item)
    return worths


def new_worths(spot):
    """The worths of the fields, for a new."""
    act = spot.act()
    fields = spot.scope.library.fields_of(act[1])
    return {"self." + field: spot.pair(value) for field, value in zip(fields, handed(act))}


def _return_worths(spot):
    library = spot.scope.library
    method = spot.scope.method
    worths = taken_as(library, "self", spot.scope.owner, "self")
    for name, kind in method.params:
        worths.update(taken_as(library, name, kind, name))
    given = spot.act()[1]
    if isinstance(given, str):
        worths.update(taken_as(library, "result", method.result, spot.stems[given]))
    else:
        worths["result"] = spot.pair(given)
    return worths


def claims_at(lines, spot):
    """The clauses that the check of a site asks, with the terms of the body put in."""
    act = spot.act()
    if act[0] == "new":
        return all_put_in(lines.library.where_of(act[1]), new_worths(spot))
    if act[0] == "return":
        return all_put_in(spot.scope.method.post.clauses, _return_worths(spot))
    slot = spot.asked_slot()
    method = lines.rungs_of(slot, slot.owner)[0].method
    return all_put_in(method.pre.clauses, call_worths(spot))
