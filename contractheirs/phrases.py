"""What the parts of a row of a text say; each function returns None for what cannot stand there."""

from contractheirs.forms import is_name, is_term

DIGITS = "0123456789"
MOST_DIGITS = 100


def _whole(parts):
    """The parts as a tuple, if none of them is None."""
    return None if None in parts else tuple(parts)


def _behind(word, text):
    """What stands behind a word and a blank, "" if the text does not begin so."""
    return text[len(word) + 1:] if text.startswith(word + " ") else ""


def _name(text):
    return text if is_name(text) else None


def _object(text):
    """A variable that is an object."""
    return text if text == "self" or is_name(text) else None


def _kind(text):
    return text if text == "int" or is_name(text) else None


def _number(text):
    """An integer as Python writes it."""
    digits = text[1:] if text.startswith("-") else text
    if not 1 <= len(digits) <= MOST_DIGITS or not all([digit in DIGITS for digit in digits]):
        return None
    return None if digits[0] == "0" and text != "0" else int(text)


def _term(text):
    if text == "zero":
        return ""
    return text if text != "" and is_term(text) else None


def _value(text):
    parts = text.split(" ")
    if len(parts) != 3 or parts[1] != "+":
        return None
    return _whole([_term(parts[0]), _number(parts[2])])


def _item(text):
    """A value, or a variable that is an object."""
    return _value(text) if " " in text else _object(text)


def _literal(text):
    parts = text.split(" ")
    if len(parts) != 5 or parts[1] != "<=" or parts[3] != "+":
        return None
    return _whole([_term(parts[0]), _term(parts[2]), _number(parts[4])])


def clause_behind(word, row):
    """The clause of a row that begins with a word."""
    text = _behind(word, row)
    # A term may be the word "or", so the one between two literals is known by its place.
    parts = text.split(" ")
    if len(parts) == 11 and parts[5] == "or":
        return _whole([_literal(" ".join(parts[:5])), _literal(" ".join(parts[6:]))])
    return _whole([_literal(text)])


def class_row(row):
    """The name of a class, and a tuple of its bases."""
    name, colon, bases = _behind("class", row).partition(": ")
    if colon == "":
        return _whole([_name(name), ()])
    return _whole([_name(name), _whole([_name(base) for base in bases.split(" ")])])


def field_row(row):
    """The name of a field."""
    return _name(_behind("field", row))


def _enclosed(text):
    """What stands ahead of parentheses and what in them, as a pair; the end of the text closes them."""
    ahead, _, rest = text.partition("(")
    return (ahead, rest[:-1]) if rest.endswith(")") else None


def _all(look, text):
    """A tuple of what stands between commas."""
    return () if text == "" else _whole([look(part) for part in text.split(", ")])


def _param(text):
    name, _, kind = text.partition(": ")
    return _whole([_name(name), _kind(kind)])


def method_row(row):
    """The name of a method, its parameters and its result."""
    head, sign, result = _behind("method", row).partition("): ")
    found = _enclosed(head + ")") if sign == "): " else None
    if found is None:
        return None
    name, params = found
    return _whole([_name(name), _all(_param, params), _kind(result)])


def body_row(row):
    """The row above a body."""
    return row if row == "body" else None


def else_row(row):
    """The row between two parts."""
    return row if row == "else" else None


def let_row(row):
    """The variable and the expression of a let."""
    name, _, expression = _behind("let", row).partition(" = ")
    return _whole([_name(name), _expression(expression)])


def _expression(text):
    word, _, rest = text.partition(" ")
    if text == "ask":
        return ("ask",)
    if word == "int":
        value = _value(rest)
        return None if value is None else ("int",) + value
    if word == "as":
        variable, _, name = rest.partition(" ")
        return _whole(["as", _object(variable), _name(name)])
    found = _enclosed(rest) if word in ("new", "call") else _enclosed(text)
    if found is None:
        return None
    asked, given = found
    if word == "new":
        return _whole(["new", _name(asked), _all(_value, given)])
    if word == "call":
        variable, _, method = asked.partition(".")
        return _whole(["call", _object(variable), _name(method), _all(_item, given)])
    return _whole(["next", _all(_item, given)]) if asked == "next" else None


def last_row(row):
    """A statement that is no let, without its parts."""
    if row in ("halt", "try"):
        return (row,)
    if row.startswith("if "):
        return _whole(["if", _literal(_behind("if", row))])
    return _whole(["return", _item(_behind("return", row))])
