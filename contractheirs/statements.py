"""Statements and expressions: their forms and their parts, and how much a body may hold."""

from contractheirs.forms import is_integer, is_literal_over_terms, is_term

# How many items a tuple has that begins with the word.
STATEMENTS = {"return": 2, "let": 4, "if": 4, "try": 3, "halt": 1}
EXPRESSIONS = {"int": 3, "ask": 1, "new": 3, "call": 4, "next": 2, "as": 3}

MOST_STATEMENTS = 40
MOST_IFS = 4
MOST_TRIES = 2
MOST_CALLS = 4


def _first_word(thing):
    """The string that a tuple begins with, "" for anything else."""
    if isinstance(thing, tuple) and thing != () and isinstance(thing[0], str):
        return thing[0]
    return ""


def _looks_like(thing):
    """The word of a tuple that has it and the number of items of a statement, "" for anything else."""
    word = _first_word(thing)
    return word if word in STATEMENTS and len(thing) == STATEMENTS[word] else ""


def parts_of(statement):
    """The statements within what looks like a statement, as a tuple."""
    word = _looks_like(statement)
    if word == "let":
        return statement[3:]
    if word == "if":
        return statement[2:]
    if word == "try":
        return statement[1:]
    return ()


def _is_value(thing):
    return isinstance(thing, tuple) and len(thing) == 2 and is_term(thing[0]) and is_integer(thing[1])


def _are_values(things):
    return isinstance(things, tuple) and all([_is_value(one) for one in things])


def _are_arguments(things):
    return isinstance(things, tuple) and all([isinstance(one, str) or _is_value(one) for one in things])


def _is_expression(thing):
    word = _first_word(thing)
    if word not in EXPRESSIONS or len(thing) != EXPRESSIONS[word]:
        return False
    if word == "int":
        return _is_value(thing[1:])
    if word == "new":
        return isinstance(thing[1], str) and _are_values(thing[2])
    if word == "call":
        return isinstance(thing[1], str) and isinstance(thing[2], str) and _are_arguments(thing[3])
    if word == "next":
        return _are_arguments(thing[1])
    if word == "as":
        return isinstance(thing[1], str) and isinstance(thing[2], str)
    return True


def has_form(statement):
    """Whether a thing is a statement, whatever its parts are."""
    word = _looks_like(statement)
    if word == "return":
        return isinstance(statement[1], str) or _is_value(statement[1])
    if word == "let":
        return isinstance(statement[1], str) and _is_expression(statement[2])
    if word == "if":
        return is_literal_over_terms(statement[1])
    return word != ""


def act_of(statement):
    """What a statement itself does: the expression of a let, else the statement."""
    return statement[2] if statement[0] == "let" else statement


def handed(act):
    """The values and variables that are handed over: as arguments, as fields, or back."""
    if act[0] == "return":
        return act[1:]
    if act[0] == "next":
        return act[1]
    if act[0] == "new":
        return act[2]
    if act[0] == "call":
        return act[3]
    return ()


def terms_in(act):
    """The terms of the literal, the int or the values of an act."""
    if act[0] == "if":
        return list(act[1][:2])
    if act[0] == "int":
        return [act[1]]
    return [one[0] for one in handed(act) if isinstance(one, tuple)]


def objects_in(act):
    """The strings of an act that stand for objects."""
    passed = [one for one in handed(act) if isinstance(one, str)]
    return [act[1]] + passed if act[0] in ("call", "as") else passed


def _statements(body):
    """All statements of a body, or one more than it may have: parts that come again and again may be very many."""
    found = []
    waiting = [body]
    while waiting and len(found) <= MOST_STATEMENTS:
        statement = waiting.pop()
        found.append(statement)
        waiting.extend(parts_of(statement))
    return found


def _tries(statement):
    """How deep tries stand within one another."""
    deepest = max([_tries(part) for part in parts_of(statement)], default=0)
    return deepest + 1 if _looks_like(statement) == "try" else deepest


def _calls(statement):
    """The number of calls that a statement has, as the document counts them."""
    word = _looks_like(statement)
    counts = [_calls(part) for part in parts_of(statement)]
    if word == "let" and _first_word(statement[2]) in ("call", "next"):
        return counts[0] + 1
    return max(counts) if word == "if" else sum(counts)


def is_too_large(body):
    """Whether a body, which may be anything, holds more than it may."""
    found = _statements(body)
    if len(found) > MOST_STATEMENTS:
        return True
    ifs = len([statement for statement in found if _looks_like(statement) == "if"])
    return ifs > MOST_IFS or _tries(body) > MOST_TRIES or _calls(body) > MOST_CALLS
