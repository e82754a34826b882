"""Statements and expressions as tuples, and a library for bodies to stand in."""

from contractheirs.classes import ClassDef, Method
from contractheirs.errors import BadLibrary
from contractheirs.libraries import Library

HALT = ("halt",)
ASK = ("ask",)
ONE = ("", 1)
BACK = ("return", ONE)


def let(name, expression, rest=BACK):
    return ("let", name, expression, rest)


def lets(many, rest=BACK, expression=ASK, stem="v"):
    """So many lets of different names ahead of a rest."""
    for k in range(many):
        rest = let(stem + chr(97 + k // 26) + chr(97 + k % 26), expression, rest)
    return rest


def new(name, *values):
    return ("new", name, values)


def call(variable, method, *arguments):
    return ("call", variable, method, arguments)


def following(*arguments):
    """A next."""
    return ("next", arguments)


def when(first=BACK, second=HALT, literal=("", "", 0)):
    return ("if", literal, first, second)


def attempt(first=BACK, second=HALT):
    return ("try", first, second)


def method(name, params, result, body=HALT):
    return Method(name, params, result, body=body)


X = (("x", "int"),)
MANY = (("x", "int"), ("p", "low"), ("q", "top"))
NEVER = (("", "", -1),)
ALWAYS = (("", "", 0),)


def most(term, number):
    """The clause that a term is at most a number."""
    return ((term, "", number),)


def least(term, number):
    return (("", term, -number),)


def writing(name, bases=(), pre=None, post=None, body=BACK, fields=(), where=None, params=X, result="int"):
    made = Method("m", params, result, pre=pre, post=post, body=body)
    return ClassDef(name, bases, fields=fields, where=where, methods=(made,))


def asking(name, view, number, rest=("return", ("r", 0))):
    """A client that calls m of a new object of a class, seen as another one."""
    return let("o", new(name), let("t", ("as", "o", view), let("r", call("t", "m", ("", number)), rest)))


def classes(**bodies):
    """Classes for bodies; bodies are those of left's method m, its t (result int), its u (result left) and so on."""
    def body(key):
        return bodies.get(key, HALT)
    return [
        ClassDef("top", fields=("f",), methods=(method("m", X, "int", body("top")), method("mk", (), "left"))),
        ClassDef("left", ("top",), fields=("g",), methods=(
            method("m", X, "int", body("m")), method("t", MANY, "int", body("t")), method("u", MANY, "left", body("u")),
        )),
        ClassDef("right", ("top",), fields=("h",), methods=(method("m", X, "int"),)),
        ClassDef("low", ("left", "right"), methods=(method("w", (), "int", body("w")),)),
        ClassDef("lower", ("low",), methods=(method("m", X, "int", body("lower")),)),
        ClassDef("lone", methods=(
            method("take", (("a", "left"), ("n", "int")), "low", body("take")), method("go", (), "int", body("go")),
        )),
    ]


WRITERS = {"top": "top", "m": "left", "t": "left", "u": "left", "w": "low", "lower": "lower", "take": "lone", "go": "lone"}
METHODS = {"top": "m", "lower": "m"}


def told(key, body):
    """What a library says of the body of one of its methods: None, or the pair of the place and the word."""
    try:
        Library(*classes(**{key: body}))
    except BadLibrary as error:
        owner, name, place = error.at
        assert (owner, name) == (WRITERS[key], METHODS.get(key, key)), error.at
        return (place, error.why)
    return None
