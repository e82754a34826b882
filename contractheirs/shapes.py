"""What is wrong with the classes of a library, apart from the bodies.

Each function that looks for something returns a pair of the place and the word, or None. Each word relies on
those ahead of it: nothing of theirs is there any more.
"""

from contractheirs.classes import ClassDef, Method, written
from contractheirs.conditions import Cond
from contractheirs.forms import are_names, is_name
from contractheirs.orders import is_above_itself
from contractheirs.terms import terms_of

MOST_CLASSES = 30
MOST_BASES = 3
MOST_FIELDS = 3
MOST_METHODS = 3
MOST_PARAMS = 3


def first_no_class(classes):
    """The index of the first argument of a library that cannot stand there, or None."""
    names = []
    for at, one in enumerate(classes):
        if at == MOST_CLASSES or not isinstance(one, ClassDef) or not is_name(one.name) or one.name in names:
            return at
        names.append(one.name)
    return None


def wrong_bases(library):
    """The first class with "bases" or "ring"."""
    for name in library.names:
        if not _are_classes(library, library[name].bases):
            return (name, "bases")
    bases = {name: library[name].bases for name in library.names}
    for name in library.names:
        if is_above_itself(bases, name):
            return (name, "ring")
    return None


def _are_classes(library, bases):
    return are_names(bases, MOST_BASES) and all([base in library for base in bases])


def _has_wrong_fields(library, name):
    return not are_names(library[name].fields, MOST_FIELDS)


def _has_double(library, name):
    fields = library.fields_of(name)
    return len(set(fields)) != len(fields)


def _has_wrong_where(library, name):
    where = library[name].where
    if not _is_over(where, terms_of(library, "self", name)):
        return True
    return not all([len(clause) == 1 for clause in where.clauses])


def _has_wrong_methods(library, name):
    methods = library[name].methods
    if not isinstance(methods, tuple) or not all([isinstance(method, Method) for method in methods]):
        return True
    return not are_names(tuple([method.name for method in methods]), MOST_METHODS)


CLASS_WORDS = {
    "fields": _has_wrong_fields,
    "double": _has_double,
    "where": _has_wrong_where,
    "methods": _has_wrong_methods,
}


def wrong_class(library):
    """The first class with one of the words from "fields" to "methods"."""
    for word in CLASS_WORDS:
        is_wrong = CLASS_WORDS[word]
        for name in library.names:
            if is_wrong(library, name):
                return (name, word)
    return None


def _is_over(cond, terms):
    """Whether a thing is a condition over some terms."""
    return isinstance(cond, Cond) and all([term in terms for term in cond.terms])


def _entry_terms(library, name, method):
    """The terms that are known at a call of a method that a class writes."""
    terms = terms_of(library, "self", name)
    for param, kind in method.params:
        terms.extend(terms_of(library, param, kind))
    return terms


def _is_kind(library, thing):
    return thing == "int" or thing in library


def _has_wrong_params(library, name, method):
    params = method.params
    if not isinstance(params, tuple) or not all([isinstance(param, tuple) and len(param) == 2 for param in params]):
        return True
    if not are_names(tuple([param[0] for param in params]), MOST_PARAMS):
        return True
    return not all([_is_kind(library, param[1]) for param in params])


def _has_wrong_result(library, name, method):
    return not _is_kind(library, method.result)


def _has_wrong_pre(library, name, method):
    return not _is_over(method.pre, _entry_terms(library, name, method))


def _has_wrong_post(library, name, method):
    terms = _entry_terms(library, name, method) + terms_of(library, "result", method.result)
    return not _is_over(method.post, terms)


METHOD_WORDS = {
    "params": _has_wrong_params,
    "result": _has_wrong_result,
    "pre": _has_wrong_pre,
    "post": _has_wrong_post,
}


def wrong_method(library):
    """The first method that a class writes with one of the words from "params" to "post"."""
    for word in METHOD_WORDS:
        is_wrong = METHOD_WORDS[word]
        for name in library.names:
            for method in library[name].methods:
                if is_wrong(library, name, method):
                    return ((name, method.name), word)
    return None


def wrong_heritage(library):
    """The first method that a class has with "inherited"."""
    for name in library.names:
        for method in library.methods_of(name):
            if not _is_written_alike(library, name, method):
                return ((name, method), "inherited")
    return None


def _is_written_alike(library, name, method):
    """Whether all classes of an order write a method with the same params and result."""
    first = written(library[library.writer_of(name, method)], method)
    for each in library.order_of(name):
        other = written(library[each], method)
        if other is not None and (other.params != first.params or other.result != first.result):
            return False
    return True
