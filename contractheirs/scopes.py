"""What is known where a statement stands."""

from contractheirs.classes import written
from contractheirs.statements import act_of


class Seen:
    """What a body knows of an object: its known class and its view.

    fresh tells whether a new of this very body made it.
    """

    def __init__(self, known, view, fresh):
        self.known = known
        self.view = view
        self.fresh = fresh


def seen_as(kind):
    """What is known of a thing of this kind: a Seen of an object, None of an integer."""
    return None if kind == "int" else Seen(kind, kind, False)


class Scope:
    """Where a statement stands: in a method that a class (the owner) of a library writes, or in a client.

    variables has what is known of each variable, and of "self". In a client owner and method are None.
    """

    def __init__(self, library, owner, method, variables):
        self.library = library
        self.owner = owner
        self.method = method
        self.variables = variables

    def result_kind(self):
        """The kind that a return has to have."""
        return "int" if self.method is None else self.method.result

    def seen(self, variable):
        """What is known of an object, None if a string is no object that is known here."""
        return self.variables.get(variable)

    def knows(self, term):
        """Whether a term may stand here."""
        variable, dot, field = term.partition(".")
        if dot == "":
            return term == "" or (term in self.variables and self.seen(term) is None)
        found = self.seen(variable)
        return found is not None and field in self.library.fields_of(found.known)

    def is_of(self, item, kind):
        """Whether a value or a variable that is handed over is of a kind."""
        if isinstance(item, tuple):
            return kind == "int"
        # No class is called "int", so an object is never taken for an integer.
        return kind in self.library.order_of(self.seen(item).view)

    def asked(self, act):
        """The method that a call or a next asks for, with the parameters and the result of all that may answer."""
        if act[0] == "next":
            return self.method
        writer = self.library.writer_of(self.seen(act[1]).view, act[2])
        return written(self.library[writer], act[2])

    def made(self, expression):
        """What is known of the thing that an expression makes."""
        word = expression[0]
        if word == "new":
            return Seen(expression[1], expression[1], True)
        if word == "as":
            found = self.seen(expression[1])
            return Seen(found.known, expression[2], found.fresh)
        if word in ("call", "next"):
            return seen_as(self.asked(expression).result)
        return None

    def behind(self, statement):
        """The scope of the parts of a statement."""
        if statement[0] != "let":
            return self
        variables = dict(self.variables)
        variables[statement[1]] = self.made(act_of(statement))
        return Scope(self.library, self.owner, self.method, variables)


def client_scope(library):
    """The scope that a client begins with."""
    return Scope(library, None, None, {})


def method_scope(library, owner, method):
    """The scope that the body of a method begins with."""
    variables = {"self": seen_as(owner)}
    for name, kind in method.params:
        variables[name] = seen_as(kind)
    return Scope(library, owner, method, variables)
