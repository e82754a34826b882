"""Bodies: what is wrong with them, and their sites."""

from contractheirs.classes import written
from contractheirs.errors import BadBody, NoMethod
from contractheirs.forms import is_name
from contractheirs.scopes import client_scope, method_scope
from contractheirs.slots import Slot, has_slot
from contractheirs.statements import act_of, handed, has_form, is_too_large, objects_in, parts_of, terms_in


def _wrong_term(scope, act):
    return not all([scope.knows(term) for term in terms_in(act)])


def _wrong_object(scope, act):
    return None in [scope.seen(variable) for variable in objects_in(act)]


def _wrong_class(scope, act):
    if act[0] == "new":
        return act[1] not in scope.library
    return act[0] == "as" and act[2] not in scope.library.order_of(scope.seen(act[1]).view)


def _wrong_method(scope, act):
    return act[0] == "call" and act[2] not in scope.library.methods_of(scope.seen(act[1]).view)


def _wrong_next(scope, act):
    if act[0] != "next":
        return False
    return scope.method is None or not has_slot(scope.library, Slot("next", scope.owner, scope.method.name))


def _wrong_arguments(scope, act):
    if act[0] == "new":
        return len(act[2]) != len(scope.library.fields_of(act[1]))
    if act[0] not in ("call", "next"):
        return False
    params = scope.asked(act).params
    items = handed(act)
    if len(items) != len(params):
        return True
    return not all([scope.is_of(item, param[1]) for item, param in zip(items, params)])


def _wrong_own(scope, act):
    if act[0] != "call" or scope.method is None or act[2] != scope.method.name:
        return False
    found = scope.seen(act[1])
    return found.fresh and scope.library.writer_of(found.known, act[2]) == scope.owner


def _wrong_value(scope, act):
    return act[0] == "return" and not scope.is_of(act[1], scope.result_kind())


# Each one relies on those ahead of it: what they look for is not there any more.
WRONG = {
    "term": _wrong_term,
    "object": _wrong_object,
    "class": _wrong_class,
    "method": _wrong_method,
    "next": _wrong_next,
    "arguments": _wrong_arguments,
    "own": _wrong_own,
    "value": _wrong_value,
}


def _wrong_here(scope, statement):
    """The first word for what is wrong with a statement itself, or None."""
    if not has_form(statement):
        return "form"
    if statement[0] == "let" and (not is_name(statement[1]) or statement[1] in scope.variables):
        return "name"
    act = act_of(statement)
    for word in WRONG:
        is_wrong = WRONG[word]
        if is_wrong(scope, act):
            return word
    return None


def _first_wrong(scope, statement, place):
    """The first place in a statement where something is wrong, with its word, as a pair; or None."""
    why = _wrong_here(scope, statement)
    if why is not None:
        return (place, why)
    inner = scope.behind(statement)
    for at, part in enumerate(parts_of(statement)):
        found = _first_wrong(inner, part, place + (at,))
        if found is not None:
            return found
    return None


def _wrong_body(scope, body):
    return ((), "size") if is_too_large(body) else _first_wrong(scope, body, ())


def wrong_method_body(library, owner, method):
    """The first place where something is wrong in the body of a method, with its word, as a pair; or None."""
    return _wrong_body(method_scope(library, owner, method), method.body)


def check_client(library, client):
    """Raises BadBody if a client is no body without parameters and without self."""
    found = _wrong_body(client_scope(library), client)
    if found is not None:
        at, why = found
        raise BadBody(at, why)


def sites(library, name, method):
    """The sites of the body that a class writes."""
    found = written(library[name], method)
    if found is None:
        raise NoMethod(method)
    waiting = [((), found.body)]
    while waiting:
        place, statement = waiting.pop()
        if act_of(statement)[0] in ("call", "next", "new", "return"):
            yield (name, method, place)
        parts = parts_of(statement)
        # The last one in is the first one out.
        waiting.extend([(place + (at,), parts[at]) for at in reversed(range(len(parts)))])
