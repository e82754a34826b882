"""Bodies that are written for worlds, and libraries with them."""

from contractheirs.classes import ClassDef, Method
from contractheirs.forms import LETTERS, is_name

HALT = ("halt",)


def _free_words(taken, many):
    """So many names that are not taken."""
    words = [first + second for first in LETTERS for second in LETTERS]
    return [word for word in words if is_name(word) and word not in taken][:many]


def free_classes(library, many):
    """So many names that no class of a library has."""
    return _free_words(library.names, many)


def free_variables(library, many):
    """So many names that no parameter of a library has."""
    methods = [method for one in library.classes for method in one.methods]
    return _free_words([name for method in methods for name, _ in method.params], many)


def constant(values, term):
    """The value for a term in a dict of integers; what is not asked for there is 0."""
    return ("", values.get(term, 0))


def nested(lets, last):
    """A statement behind lets, which are pairs of a variable and an expression."""
    for name, expression in lets[::-1]:
        last = ("let", name, expression, last)
    return last


def rewritten(library, bodies):
    """The classes of a library with the bodies of a dict by (class, method); a body that is not there is a halt."""
    found = []
    for one in library.classes:
        methods = [_with_body(method, bodies.get((one.name, method.name), HALT)) for method in one.methods]
        found.append(ClassDef(one.name, one.bases, fields=one.fields, where=one.where, methods=tuple(methods)))
    return found


def _with_body(method, body):
    """A method with another body."""
    return Method(method.name, method.params, method.result, pre=method.pre, post=method.post, body=body)


class Writer:
    """Writes statements that bring about the values of terms; heirs has the classes that stand for others."""

    def __init__(self, library, values, heirs):
        self.library = library
        self.numbers = values
        self.heirs = heirs
        self.variables = free_variables(library, 6)

    def object_of(self, kind, stem):
        """A new for an object of a class, with the fields that the terms of a stem tell."""
        fields = [constant(self.numbers, stem + "." + field) for field in self.library.fields_of(kind)]
        return ("new", self.heirs.get(kind, kind), tuple(fields))

    def given_back(self, kind, term):
        """A statement that returns a thing of a kind."""
        if kind == "int":
            return ("return", constant(self.numbers, term))
        result = self.variables[0]
        return ("let", result, self.object_of(kind, term), ("return", result))

    def passed(self, method, prefix):
        """Lets for the objects that are passed to a method, and a tuple of all arguments."""
        lets = []
        given = []
        for param, variable in zip(method.params, self.variables):
            name, kind = param
            if kind == "int":
                given.append(constant(self.numbers, prefix + name))
            else:
                lets.append((variable, self.object_of(kind, prefix + name)))
                given.append(variable)
        return (lets, tuple(given))

    def make_client(self, method, prefix, name, view):
        """A client that makes self of a class, and calls a method of it, seen as another one."""
        lets, given = self.passed(method, prefix)
        target, seen, result = self.variables[3:]
        lets.extend([(target, self.object_of(name, "self")), (seen, ("as", target, view))])
        lets.append((result, ("call", seen, method.name, given)))
        return nested(lets, ("return", ("", 0)))

    def passing_body(self, method, prefix):
        """A body that passes something to the next one."""
        lets, given = self.passed(method, prefix)
        return nested(lets + [(self.variables[3], ("next", given))], HALT)
