"""Classes and their methods, as they are written; whether they fit is asked by a library."""

from contractheirs.conditions import Cond


class Method:
    """A method with its contract and its body."""

    def __init__(self, name, params, result, *, pre=None, post=None, body):
        self.name = name
        self.params = params
        self.result = result
        self.pre = Cond() if pre is None else pre
        self.post = Cond() if post is None else post
        self.body = body

    def __eq__(self, other):
        return (
            isinstance(other, Method)
            and self.name == other.name
            and self.params == other.params
            and self.result == other.result
            and self.pre == other.pre
            and self.post == other.post
            and self.body == other.body
        )


class ClassDef:
    """A class with what it writes itself."""

    def __init__(self, name, bases=(), *, fields=(), where=None, methods=()):
        self.name = name
        self.bases = bases
        self.fields = fields
        self.where = Cond() if where is None else where
        self.methods = methods

    def __eq__(self, other):
        return (
            isinstance(other, ClassDef)
            and self.name == other.name
            and self.bases == other.bases
            and self.fields == other.fields
            and self.where == other.where
            and self.methods == other.methods
        )


def written(classdef, name):
    """The method of this name that a class of a library writes, or None."""
    for method in classdef.methods:
        if method.name == name:
            return method
    return None
