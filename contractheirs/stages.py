"""The world in which the check of a site fails.

All bodies but that of the site are written anew, and bring about what the values of a way tell of it. A body that is
asked several times on the way takes a number from the tape, to know what it has to do.
"""

from contractheirs.classes import ClassDef, Method
from contractheirs.conditions import Cond, first_broken
from contractheirs.scripts import HALT, Writer, free_classes, rewritten
from contractheirs.statements import act_of, parts_of


def _calls_itself(method):
    """Whether a body calls its own method by name."""
    waiting = [method.body]
    while waiting:
        statement = waiting.pop()
        act = act_of(statement)
        if act[0] == "call" and act[2] == method.name:
            return True
        waiting.extend(parts_of(statement))
    return False


def _heirs(library, owner, method, kinds):
    """The names of further classes for those of some kinds for which the body of the site would answer."""
    found = {}
    if not _calls_itself(method):
        return found
    names = free_classes(library, len(library.names))
    for kind in kinds:
        if kind != "int" and kind not in found and method.name in library.methods_of(kind):
            if library.writer_of(kind, method.name) == owner:
                found[kind] = names[len(found)]
    return found


class Stage:
    """The bodies and the tape of a world around the body of a method that a class (the owner) writes.

    heirs has further classes, by the class right above each. They write the method, too, so that a body that
    calls its own method is not begun again. leaves has, by (class, method), the statements that a body may
    come to: a number of the tape tells which.
    """

    def __init__(self, library, owner, method, values, events):
        kinds = [owner] + [kind for _, kind in method.params] + [event.kind for event in events]
        self.library = library
        self.owner = owner
        self.method = method
        self.numbers = values
        self.heirs = _heirs(library, owner, method, kinds)
        self.writer = Writer(library, values, self.heirs)
        self.spoilt = None
        self.leaves = {}
        self.tape = []
        if owner in self.heirs:
            self._lead((self.heirs[owner], method.name), self._passed_on())
        for event in events:
            self._bring(event)

    def _lead(self, key, leaf):
        """Lets a body come to a statement the next time that it is asked."""
        rows = self.leaves.setdefault(key, [])
        self.tape.append(len(rows))
        rows.append(leaf)

    def _passed_on(self):
        """Lets self come to the body of the site, if its class is a further one."""
        result = self.writer.variables[0]
        given = [(name, 0) if kind == "int" else name for name, kind in self.method.params]
        back = (result, 0) if self.method.result == "int" else result
        return ("let", result, ("next", tuple(given)), ("return", back))

    def _bring(self, event):
        """Brings about what comes into the body from outside."""
        if event.slot is None:
            self.tape.append(self.numbers.get(event.term, 0))
        elif event.entry is None:
            self._lead(self._answering(event), self.writer.given_back(event.kind, event.term))
        elif self._is_entered(event):
            self._lead(self._answering(event), self._broken())

    def _answering(self, event):
        """The class whose body answers, with the method."""
        slot = event.slot
        if slot.word == "next":
            return (slot(self.library, self.owner), slot.method)
        kind = event.known.known
        if slot.method == self.method.name and kind in self.heirs:
            return (self.heirs[kind], slot.method)
        return (self.library.writer_of(kind, slot.method), slot.method)

    def _is_entered(self, event):
        """Whether all checks of the entry hold, so that the breach has to come from within."""
        terms = [term for clause in event.entry for literal in clause for term in literal[:2]]
        return first_broken(event.entry, {term: self.numbers.get(term, 0) for term in terms}) is None

    def _broken(self):
        """A statement that breaches: it makes an object of a class of which there is none."""
        self.spoilt = free_classes(self.library, len(self.heirs) + 1)[-1]
        return ("let", self.writer.variables[0], ("new", self.spoilt, (("", 0),)), HALT)

    def opening(self):
        """A client that calls the method on self."""
        view = self.heirs.get(self.owner, self.owner)
        return self.writer.make_client(self.method, "", self.owner, view)

    def all_classes(self):
        """The classes of the library with their bodies, and the further ones behind them."""
        bodies = {key: self._body(key) for key in self.leaves}
        bodies[(self.owner, self.method.name)] = self.method.body
        found = rewritten(self.library, bodies)
        for kind, name in self.heirs.items():
            found.append(ClassDef(name, (kind,), methods=(self._overriding(bodies, name),)))
        if self.spoilt is not None:
            found.append(ClassDef(self.spoilt, fields=("f",), where=Cond((("self.f", "", -1),))))
        return found

    def _overriding(self, bodies, name):
        """The method of a further class: it asks nothing, and owes what the one above owes."""
        its = self.method
        return Method(its.name, its.params, its.result, post=its.post, body=bodies.get((name, its.name), HALT))

    def _body(self, key):
        """A body that comes to each of its leaves."""
        rows = self.leaves[key]
        number = self.writer.variables[1]
        last = rows[-1]
        for at in reversed(range(len(rows) - 1)):
            last = ("if", (number, "", at), rows[at], last)
        return ("let", number, ("ask",), last)
