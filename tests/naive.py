"""Runs of clients, told once more as the document tells them: slow, and by nothing but the orders of the classes.

What is known at each site and at each check of an heir is written down, for tests to look at.
"""

from contractheirs.checks import BodyCheck, CallCheck, HeirEntry, HeirExit, NewCheck
from contractheirs.slots import Slot

PARTS = {"let": (3,), "if": (2, 3), "try": (1, 2)}


class Failed(Exception):
    """A breach; told are its values, earlier the one that was current."""

    def __init__(self, told, earlier):
        self.told = told
        self.earlier = earlier


class Ended(Exception):
    """The run ends otherwise."""

    def __init__(self, outcome):
        self.outcome = outcome


class Item:
    """An object as a variable sees it; stem is what its variable is called in the facts of ways."""

    def __init__(self, kind, fields, known, view, stem):
        self.kind = kind
        self.fields = fields
        self.known = known
        self.view = view
        self.stem = stem


def method_of(library, name, method):
    found = [one for one in library[name].methods if one.name == method]
    return found[0] if found else None


def line(library, slot, kind):
    return [each for each in library.order_of(kind) if slot.owner in library.order_of(each)]


def answering(library, slot, name):
    order = library.order_of(name)
    if slot.word == "next":
        order = order[order.index(slot.owner) + 1:]
    return [each for each in order if method_of(library, each, slot.method)][0]


def first_failing(clauses, numbers):
    """The index of the first clause that fails, or None."""
    numbers = {**numbers, "": 0}
    failing = [at for at, clause in enumerate(clauses) if not any(numbers[a] <= numbers[b] + n for a, b, n in clause)]
    return failing[0] if failing else None


class Body:
    """A body that runs."""

    def __init__(self, owner, method, variables, numbers, trail):
        self.owner = owner
        self.method = method
        self.variables = variables
        self.numbers = numbers
        self.trail = trail
        # The variables of lets, with the places of these.
        self.bound = []

    def site(self, place):
        return (self.owner, self.method.name if self.method else None, place)


class Naive:
    """One run; seen has what was known at the sites, asked what was known at the checks of heirs."""

    def __init__(self, library, tape, steps=500, without=()):
        self.library = library
        self.tape = list(tape)
        self.steps = steps
        self.without = list(without)
        self.open = 0
        self.current = None
        self.found = []
        self.seen = []
        self.asked = []

    def run(self, client):
        """What the run ends with: what run returns, the word of an error, or a Failed."""
        try:
            return ("returned", self.statement(Body(None, None, {}, {}, []), client, ()))
        except Ended as ended:
            return ended.outcome
        except Failed as failed:
            return failed

    def statement(self, body, statement, place):
        """What the rest of a body gives back."""
        if self.steps == 0:
            raise Ended("TooLong")
        self.steps -= 1
        word = statement[0]
        if word == "halt":
            raise Ended(("halted",))
        if word == "return":
            self.note(body, place)
            given = statement[1]
            return self.item(body, given), place
        if word == "if":
            left, right, number = statement[1]
            at = 0 if self.number(body, (left, 0)) <= self.number(body, (right, number)) else 1
            return self.statement(body, statement[2 + at], place + (at,))
        if word == "try":
            return self.attempt(body, statement, place)
        item = self.made(body, statement[1], statement[2], place)
        body.variables[statement[1]] = item
        if statement[2][0] != "as":
            body.bound.append((place, statement[1], item))
        return self.statement(body, statement[3], place + (0,))

    def attempt(self, body, statement, place):
        ahead = self.current
        outside = dict(body.variables)
        try:
            return self.statement(body, statement[1], place + (0,))
        except Failed as failed:
            body.variables = outside
            for where, name, item in list(body.bound):
                if where[:len(place) + 1] == place + (0,) and ":" not in name:
                    body.bound.remove((where, name, item))
                    renamed = "".join(map(str, where)) + ":" + name
                    body.bound.append((where, renamed, item))
            self.current = failed
            try:
                return self.statement(body, statement[2], place + (1,))
            finally:
                self.current = ahead

    def number(self, body, value):
        term, plus = value
        if term == "":
            return plus
        name, dot, field = term.partition(".")
        item = body.variables[name]
        return plus + (item.fields[field] if dot else item)

    def item(self, body, given):
        return body.variables[given] if isinstance(given, str) else self.number(body, given)

    def made(self, body, name, expression, place):
        word = expression[0]
        if word == "int":
            return self.number(body, expression[1:])
        if word == "ask":
            if not self.tape:
                raise Ended(("halted",))
            return self.tape.pop(0)
        if word == "as":
            item = body.variables[expression[1]]
            return Item(item.kind, item.fields, item.known, expression[2], None)
        self.note(body, place)
        if word == "new":
            return self.new(body, expression, place)
        return self.call(body, expression, place)

    def new(self, body, expression, place):
        _, kind, values = expression
        fields = {field: self.number(body, one) for field, one in zip(self.library.fields_of(kind), values)}
        numbers = {"self." + field: number for field, number in fields.items()}
        site = body.site(place)
        clause = first_failing(self.library.where_of(kind), numbers)
        self.check(NewCheck(site), clause, ("new", body.owner, "entry", kind, None, site, numbers))
        return Item(kind, fields, kind, kind, None)

    def call(self, body, expression, place):
        if expression[0] == "call":
            _, name, method, given = expression
            item = body.variables[name]
            slot = Slot("call", item.view, method)
        else:
            item = body.variables["self"]
            given = expression[1]
            slot = Slot("next", body.owner, body.method.name)
        if self.open == 40:
            raise Ended("TooDeep")
        classes = line(self.library, slot, item.kind)
        contracts = {each: method_of(self.library, answering(self.library, slot, each), slot.method) for each in classes}
        writer = answering(self.library, slot, item.kind)
        its = contracts[item.kind]
        numbers = {"self." + field: number for field, number in item.fields.items()}
        variables = {"self": Item(item.kind, item.fields, writer, writer, None)}
        for (name, kind), one in zip(its.params, given):
            passed = self.item(body, one)
            numbers.update(self.told(name, kind, passed))
            variables[name] = passed if kind == "int" else Item(passed.kind, passed.fields, kind, kind, None)
        site = body.site(place)
        trail = (body.trail if slot.word == "next" else []) + [numbers]
        for each in reversed(classes):
            clause = first_failing(contracts[each].pre.clauses, numbers)
            if each == slot.owner:
                check, told = CallCheck(site), ("call", body.owner)
            else:
                check, told = HeirEntry(each, slot), ("heir", each)
                self.asked.append((check, item.kind, numbers, trail))
            self.check(check, clause, (*told, "entry", each, slot, site, numbers))
        self.open += 1
        result, numbers = self.answer(Body(writer, its, variables, numbers, trail))
        self.open -= 1
        for at, each in enumerate(classes[1:], 1):
            clause = first_failing(contracts[each].post.clauses, numbers)
            heir = [one for one in classes[:at] if each in self.library.order_of(one)][-1]
            self.asked.append((HeirExit(heir, slot, each), item.kind, numbers, trail))
            self.check(HeirExit(heir, slot, each), clause, ("heir", heir, "exit", each, slot, site, numbers))
        return result if its.result == "int" else Item(result.kind, result.fields, its.result, its.result, None)

    def answer(self, body):
        """Runs a body that was called, and checks what it owes; the open calls are those of its caller again."""
        outside = self.open
        try:
            result, place = self.statement(body, body.method.body, ())
        except Failed:
            self.open = outside - 1
            raise
        numbers = {**body.numbers, **self.told("result", body.method.result, result)}
        site = body.site(place)
        clause = first_failing(body.method.post.clauses, numbers)
        try:
            self.check(BodyCheck(site), clause, ("body", body.owner, "exit", body.owner, None, site, numbers))
        except Failed:
            self.open = outside - 1
            raise
        return result, numbers

    def told(self, name, kind, item):
        if kind == "int":
            return {name: item}
        return {f"{name}.{field}": item.fields[field] for field in self.library.fields_of(kind)}

    def check(self, check, clause, told):
        if clause is not None and check not in self.without:
            failed = Failed((*told, clause), self.current)
            self.found.append(failed)
            raise failed

    def note(self, body, place):
        """Writes down what is known at a site, by the terms of the facts of ways."""
        if body.method is None:
            return
        values = {}
        items = [("self", body.variables["self"])]
        items += [(name, body.variables[name]) for name, _ in body.method.params]
        items += [(name, item) for _, name, item in body.bound]
        for name, item in items:
            if isinstance(item, Item):
                values.update({f"{name}.{field}": number for field, number in item.fields.items()})
            else:
                values[name] = item
        self.seen.append((body.site(place), values))


def outcome(library, client, tape, **more):
    """The end of a run and all breaches on the way, each as a tuple with the one that is earlier."""
    naive = Naive(library, tape, **more)
    end = naive.run(client)
    if isinstance(end, tuple) and end[0] == "returned":
        end = ("returned", end[1][0])
    return (plain(end) if isinstance(end, Failed) else end), [plain(one) for one in naive.found], naive


def plain(failed):
    """A Failed as a tuple."""
    return None if failed is None else (*failed.told, plain(failed.earlier))


def plain_breach(breach):
    """A Breach as a tuple of the same form."""
    if breach is None:
        return None
    told = (breach.kind, breach.blamed, breach.side, breach.of, breach.slot, breach.site, breach.numbers, breach.clause)
    return (*told, plain_breach(breach.earlier))
