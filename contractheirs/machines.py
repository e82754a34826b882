"""Runs a client statement by statement, and makes all checks."""

from contractheirs.checks import BodyCheck, CallCheck, HeirEntry, HeirExit, NewCheck
from contractheirs.conditions import first_broken
from contractheirs.errors import Breach, TooDeep, TooLong
from contractheirs.frames import Frame, Sight, Thing, numbers_of, numbers_of_fields, seen_by
from contractheirs.lines import Lines
from contractheirs.slots import Slot
from contractheirs.statements import handed

MOST_OPEN = 40


class Machine:
    """A run: frames has the client and the bodies that are open, found all breaches so far."""

    def __init__(self, library, tape, most, without):
        self.library = library
        self.lines = Lines(library)
        self.tape = tape
        self.told = 0
        self.most = most
        self.begun = 0
        self.without = without
        self.frames = []
        self.current = None
        self.found = []
        self.outcome = None

    def finish(self, client):
        """Runs a client to its end, and returns how it ended."""
        self.frames.append(Frame(None, None, {}, {}, None, client))
        while self.outcome is None:
            try:
                self._step()
            except Breach as breach:
                self.found.append(breach)
                if not self._is_caught(breach):
                    raise
        return self.outcome

    def _is_caught(self, breach):
        """Leaves bodies until one has a try that is open, and goes on there; returns whether there is one."""
        while self.frames:
            if self.frames[-1].recover():
                self.current = breach
                return True
            self.frames.pop()
        return False

    def _step(self):
        if self.begun == self.most:
            raise TooLong("a run would need more steps than it may have")
        self.begun += 1
        frame = self.frames[-1]
        statement = frame.statement
        word = statement[0]
        if word == "halt":
            self.outcome = ("halted",)
        elif word == "if":
            frame.enter(0 if frame.holds(statement[1]) else 1)
        elif word == "try":
            frame.attempt()
        elif word == "return":
            self._return(frame, frame.item(statement[1]))
        else:
            self._let(frame, statement[2])

    def _let(self, frame, expression):
        word = expression[0]
        if word == "int":
            frame.bind(frame.worth(expression[1:]))
        elif word == "as":
            frame.bind(Sight(frame.variables[expression[1]].thing, expression[2]))
        elif word == "ask":
            self._ask(frame)
        elif word == "new":
            self._new(frame, expression)
        elif word == "call":
            sight = frame.variables[expression[1]]
            self._call(frame, Slot("call", sight.view, expression[2]), sight.thing, handed(expression))
        else:
            slot = Slot("next", frame.owner, frame.method.name)
            self._call(frame, slot, frame.variables["self"].thing, handed(expression))

    def _ask(self, frame):
        if self.told == len(self.tape):
            self.outcome = ("halted",)
        else:
            self.told += 1
            frame.bind(self.tape[self.told - 1])

    def _new(self, frame, expression):
        name = expression[1]
        fields = self.library.fields_of(name)
        thing = Thing(name, {field: frame.worth(value) for field, value in zip(fields, handed(expression))})
        numbers = numbers_of_fields(thing)
        clause = first_broken(self.library.where_of(name), numbers)
        if clause is not None:
            site = frame.here()
            self._fail(NewCheck(site), "new", frame.owner, name, None, site, numbers, clause)
        frame.bind(Sight(thing, name))

    def _call(self, frame, slot, thing, given):
        """Begins the body that answers for a thing."""
        if len(self.frames) > MOST_OPEN:
            raise TooDeep("a run would have more open calls than it may have")
        rungs = self.lines.rungs_of(slot, thing.name)
        first = rungs[0]
        variables = {"self": Sight(thing, first.writer)}
        numbers = numbers_of_fields(thing)
        for param, one in zip(first.method.params, given):
            name, kind = param
            item = frame.item(one)
            variables[name] = seen_by(item, kind)
            numbers.update(numbers_of(self.library, name, kind, item))
        self._check_entry(frame, slot, rungs, numbers)
        frame.slot = slot
        frame.rungs = rungs
        self.frames.append(Frame(first.writer, first.method, variables, numbers, self.current, first.method.body))

    def _check_entry(self, frame, slot, rungs, numbers):
        site = frame.here()
        for rung in rungs[::-1]:
            clause = first_broken(rung.method.pre.clauses, numbers)
            if clause is not None and rung.name == slot.owner:
                self._fail(CallCheck(site), "call", frame.owner, rung.name, slot, site, numbers, clause)
            elif clause is not None:
                self._fail(HeirEntry(rung.name, slot), "heir", rung.name, rung.name, slot, site, numbers, clause)

    def _return(self, frame, item):
        """Ends a body, so that its tries are left ahead of the checks."""
        self.frames.pop()
        self.current = frame.earlier
        if not self.frames:
            self.outcome = ("returned", item)
            return
        result = frame.method.result
        numbers = dict(frame.numbers)
        numbers.update(numbers_of(self.library, "result", result, item))
        clause = first_broken(frame.method.post.clauses, numbers)
        if clause is not None:
            site = frame.here()
            self._fail(BodyCheck(site), "body", frame.owner, frame.owner, None, site, numbers, clause)
        caller = self.frames[-1]
        self._check_exit(caller, numbers)
        caller.bind(seen_by(item, result))

    def _check_exit(self, caller, numbers):
        """Checks what the classes behind the first one of the line owe."""
        slot = caller.slot
        for rung in caller.rungs[1:]:
            clause = first_broken(rung.method.post.clauses, numbers)
            if clause is not None:
                heir = self.lines.heirs_ahead(caller.rungs, rung.name)[-1]
                check = HeirExit(heir, slot, rung.name)
                self._fail(check, "heir", heir, rung.name, slot, caller.here(), numbers, clause)

    def _fail(self, check, kind, blamed, of, slot, site, numbers, clause):
        """Raises the breach of a check that failed, unless the check is left out."""
        if check not in self.without:
            earlier = self.current
            raise Breach(kind, blamed, check.SIDE, of, slot, site, dict(numbers), clause, earlier) from earlier
