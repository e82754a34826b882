"""Libraries as texts."""

from contractheirs.errors import BadText
from contractheirs.libraries import Library
from contractheirs.reading import Reader

INDENT = "  "


def shown(library):
    """The text of a library."""
    rows = []
    for one in library.classes:
        rows.extend(_class_rows(one))
    return "\n".join([INDENT * level + content for level, content in rows])


def _class_rows(one):
    """The rows of a class, as pairs of the level and the content."""
    rows = [(0, "class " + one.name + (": " + " ".join(one.bases) if one.bases else ""))]
    rows.extend([(1, "field " + field) for field in one.fields])
    rows.extend([(1, "where " + _clause(clause)) for clause in one.where.clauses])
    for method in one.methods:
        params = ", ".join([name + ": " + kind for name, kind in method.params])
        rows.append((1, f"method {method.name}({params}): {method.result}"))
        rows.extend([(2, "pre " + _clause(clause)) for clause in method.pre.clauses])
        rows.extend([(2, "post " + _clause(clause)) for clause in method.post.clauses])
        rows.append((2, "body"))
        rows.extend(_body_rows(method.body))
    return rows


def _body_rows(body):
    rows = []
    # What is left to show: a statement at a level, or a row.
    waiting = [(3, body, None)]
    while waiting:
        level, statement, row = waiting.pop()
        if row is not None:
            rows.append((level, row))
        else:
            rows.append((level, _head(statement)))
            waiting.extend(_parts(level, statement))
    return rows


def _parts(level, statement):
    """What comes behind the row of a statement; the last one is shown first."""
    word = statement[0]
    if word == "let":
        return [(level, statement[3], None)]
    if word in ("if", "try"):
        return [(level + 1, statement[-1], None), (level, None, "else"), (level + 1, statement[-2], None)]
    return []


def _head(statement):
    """The row of a statement itself."""
    word = statement[0]
    if word == "let":
        return "let " + statement[1] + " = " + _expression(statement[2])
    if word == "if":
        return "if " + _literal(statement[1])
    if word == "return":
        return "return " + _item(statement[1])
    return word


def _expression(expression):
    word = expression[0]
    if word == "int":
        return "int " + _item(expression[1:])
    if word == "new":
        return "new " + expression[1] + _items(expression[2])
    if word == "call":
        return "call " + expression[1] + "." + expression[2] + _items(expression[3])
    if word == "next":
        return "next" + _items(expression[1])
    if word == "as":
        return "as " + expression[1] + " " + expression[2]
    return word


def _items(items):
    return "(" + ", ".join([_item(item) for item in items]) + ")"


def _item(item):
    """A value, or the name of an object."""
    if isinstance(item, str):
        return item
    term, number = item
    return _term(term) + " + " + str(number)


def _term(term):
    return "zero" if term == "" else term


def _literal(literal):
    left, right, number = literal
    return _term(left) + " <= " + _item((right, number))


def _clause(clause):
    return " or ".join([_literal(literal) for literal in clause])


def read(text):
    """The library of a text."""
    if not isinstance(text, str):
        raise BadText(-1)
    classes = Reader(text).all_classes()
    return Library(*classes)
