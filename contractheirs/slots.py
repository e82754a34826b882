"""Slots: what a call or a next asks for, and which classes answer."""

from contractheirs.classes import written
from contractheirs.errors import NoSlot


class Slot:
    """A word "call" or "next", the class that owns the slot, and a method."""

    def __init__(self, word, owner, method):
        if word not in ("call", "next"):
            raise NoSlot((word, owner, method))
        self.word = word
        self.owner = owner
        self.method = method

    def __call__(self, library, name):
        """The class whose contract and body answer for objects of a class."""
        _check_slot(library, self, name)
        return _answering(library, self, name)[0]

    def __eq__(self, other):
        return (
            isinstance(other, Slot)
            and self.word == other.word
            and self.owner == other.owner
            and self.method == other.method
        )


def _answering(library, slot, name):
    """The classes that write the method, in the order of a class; for "next" those behind the owner."""
    order = library.order_of(name)
    if slot.word == "next":
        order = order[order.index(slot.owner) + 1:]
    return [each for each in order if written(library[each], slot.method) is not None]


def has_slot(library, slot):
    """Whether a library has a slot; it may be anything."""
    if not isinstance(slot, Slot) or slot.owner not in library:
        return False
    if slot.word == "next" and written(library[slot.owner], slot.method) is None:
        return False
    return len(_answering(library, slot, slot.owner)) > 0


def _check_slot(library, slot, name):
    """Raises NoSlot or NoClass if nothing can answer for a class."""
    if not has_slot(library, slot):
        raise NoSlot(slot)
    if slot.owner not in library.order_of(name):
        raise NoSlot(slot)


def line(library, slot, name):
    """The classes of the order of a class that are at or below the owner of a slot."""
    _check_slot(library, slot, name)
    return [each for each in library.order_of(name) if slot.owner in library.order_of(each)]
