"""Libraries: classes that fit together."""

from contractheirs.bodies import wrong_method_body
from contractheirs.classes import ClassDef, written
from contractheirs.errors import BadLibrary, NoClass, NoMethod
from contractheirs.orders import all_orders
from contractheirs.shapes import first_no_class, wrong_bases, wrong_class, wrong_heritage, wrong_method


class Library:
    """Some classes, of which each one fits the others."""

    def __init__(self, *classes):
        at = first_no_class(classes)
        if at is not None:
            raise BadLibrary(at, "classes")
        self.classes = classes
        self.names = tuple(sorted([one.name for one in classes]))
        self._table = {one.name: one for one in classes}
        _refuse(wrong_bases(self))
        self._orders = all_orders({one.name: one.bases for one in classes})
        _refuse(_without_order(self))
        _refuse(wrong_class(self))
        _refuse(wrong_method(self))
        _refuse(wrong_heritage(self))
        _refuse(_wrong_body(self))

    def __contains__(self, name):
        return isinstance(name, str) and name in self._table

    def __getitem__(self, name):
        if name not in self:
            raise NoClass(name)
        return self._table[name]

    def __iter__(self):
        raise TypeError("a library is not iterated over, but its names are")

    def order_of(self, name):
        """The order of a class, as a list of names."""
        if name not in self:
            raise NoClass(name)
        return list(self._orders[name])

    def fields_of(self, name):
        """The fields of a class, those of the last class of its order first."""
        return [field for each in self.order_of(name)[::-1] for field in self._table[each].fields]

    def where_of(self, name):
        """The clauses of all wheres of a class, those of the last class of its order first."""
        return [clause for each in self.order_of(name)[::-1] for clause in self._table[each].where.clauses]

    def methods_of(self, name):
        """The names of the methods that a class has, sorted."""
        return sorted({method.name for each in self.order_of(name) for method in self._table[each].methods})

    def writer_of(self, name, method):
        """The first class of the order of a class that writes a method."""
        for each in self.order_of(name):
            if written(self._table[each], method) is not None:
                return each
        raise NoMethod(method)

    def changed(self, classdef):
        """The library with a class in the place of the one with its name, or behind all others."""
        if isinstance(classdef, ClassDef) and classdef.name in self:
            classes = [classdef if one.name == classdef.name else one for one in self.classes]
            return Library(*classes)
        return Library(*self.classes, classdef)


def _refuse(found):
    """Raises BadLibrary if something is found, a pair of a place and a word."""
    if found is not None:
        at, why = found
        raise BadLibrary(at, why)


def _without_order(library):
    for name in library.names:
        if library._orders[name] is None:
            return (name, "order")
    return None


def _wrong_body(library):
    """The first method that a class writes with something wrong in its body."""
    for name in library.names:
        for method in library[name].methods:
            found = wrong_method_body(library, name, method)
            if found is not None:
                place, why = found
                return ((name, method.name, place), why)
    return None
