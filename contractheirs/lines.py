"""Lines with the contracts that stand in them."""

from contractheirs.classes import written
from contractheirs.slots import Slot, has_slot, line


class Rung:
    """A class of a line, with the class that answers for its objects and the method that this one writes."""

    def __init__(self, name, writer, method):
        self.name = name
        self.writer = writer
        self.method = method


class Lines:
    """The lines of a library; what was asked once is kept."""

    def __init__(self, library):
        self.library = library
        self._found = {}
        self._slots = None
        self._above = {name: {each: True for each in library.order_of(name)} for name in library.names}

    def is_heir(self, name, other):
        """Whether a class is another one below a class; both are of the library."""
        return name != other and other in self._above[name]

    def all_slots(self):
        """The slots of the library, in the order of the tuples (word, owner, method)."""
        if self._slots is None:
            names = [(owner, method) for owner in self.library.names for method in self.library.methods_of(owner)]
            slots = [Slot(word, owner, method) for word in ("call", "next") for owner, method in names]
            self._slots = [slot for slot in slots if has_slot(self.library, slot)]
        return self._slots

    def rungs_of(self, slot, name):
        """The rungs of line(library, slot, name): that of the class first, that of the owner last.

        The slot is one of the library, and the class at or below its owner.
        """
        key = (slot.word, slot.owner, slot.method, name)
        if key not in self._found:
            self._found[key] = [self._rung(slot, each) for each in line(self.library, slot, name)]
        return self._found[key]

    def _rung(self, slot, name):
        writer = slot(self.library, name)
        return Rung(name, writer, written(self.library[writer], slot.method))

    def heirs_ahead(self, rungs, above):
        """The heirs of a class of a line, in their order; each of them stands ahead of it."""
        return [rung.name for rung in rungs if self.is_heir(rung.name, above)]
