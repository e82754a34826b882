"""The duties of heirs, what holds when they are asked, and what must follow."""

from contractheirs.checks import HeirEntry, HeirExit
from contractheirs.classes import written
from contractheirs.slots import Slot, has_slot
from contractheirs.terms import all_put_in, each_once, taken_as, wheres_as

# A clause that never holds.
NEVER = (("", "", -1),)


def _exits(lines, heir, slot):
    """The classes of a line for which the first one would be to blame at the exit, in ascending order."""
    rungs = lines.rungs_of(slot, heir)
    return sorted([rung.name for rung in rungs if lines.heirs_ahead(rungs, rung.name) == [heir]])


def duties_of(lines, heir):
    """The duties of a class, as a list in their order."""
    found = []
    for slot in lines.all_slots():
        if lines.is_heir(heir, slot.owner):
            found.append(HeirEntry(heir, slot))
            found.extend([HeirExit(heir, slot, above) for above in _exits(lines, heir, slot)])
    return found


def is_duty(lines, thing):
    """Whether a thing, which may be anything, is a duty of a library."""
    if not isinstance(thing, (HeirEntry, HeirExit)):
        return False
    if thing.heir not in lines.library or not has_slot(lines.library, thing.slot):
        return False
    if not lines.is_heir(thing.heir, thing.slot.owner):
        return False
    return isinstance(thing, HeirEntry) or thing.above in _exits(lines, thing.heir, thing.slot)


def way_slots(library, duty):
    """The slots over which an object of the heir comes to the slot of a duty; None if there is no such way.

    They are none for a call. For a next the first one is that of a call, and each other one that of a next in a
    body that the one ahead of it leads to.
    """
    slot = duty.slot
    if slot.word == "call":
        return []
    order = library.order_of(duty.heir)
    ahead = order[:order.index(slot.owner)]
    writers = [each for each in ahead if written(library[each], slot.method) is not None]
    found = [Slot("call", duty.heir, slot.method)] + [Slot("next", each, slot.method) for each in writers]
    return found if all([has_slot(library, one) for one in found]) else None


def writers_of(lines, duty):
    """The classes whose contracts the facts and claims of a duty are made of."""
    slots = [duty.slot] + (way_slots(lines.library, duty) or [])
    return [rung.writer for slot in slots for rung in lines.rungs_of(slot, duty.heir)]


def param_wheres(library, method, prefix):
    """What the wheres say of the objects that are passed to a method."""
    return [clause for name, kind in method.params for clause in wheres_as(library, kind, prefix + name)]


def _way_facts(lines, duty):
    slots = way_slots(lines.library, duty)
    if slots is None:
        return [NEVER]
    return [clause for at, slot in enumerate(slots) for clause in _passed(lines, duty.heir, slot, f"{at}:")]


def _passed(lines, heir, slot, prefix):
    """What holds behind all checks of an entry on the way; the terms of the parameters have a prefix."""
    library = lines.library
    rungs = lines.rungs_of(slot, heir)
    method = rungs[0].method
    worths = taken_as(library, "self", heir, "self")
    for name, kind in method.params:
        worths.update(taken_as(library, name, kind, prefix + name))
    found = param_wheres(library, method, prefix)
    for rung in rungs[::-1]:
        found.extend(all_put_in(rung.method.pre.clauses, worths))
    return found


def facts_of(lines, duty):
    """The clauses that hold when a duty is asked, each once."""
    library = lines.library
    rungs = lines.rungs_of(duty.slot, duty.heir)
    method = rungs[0].method
    is_entry = isinstance(duty, HeirEntry)
    found = library.where_of(duty.heir) + param_wheres(library, method, "")
    for rung in rungs[::-1]:
        if rung.name != duty.heir or not is_entry:
            found.extend(rung.method.pre.clauses)
    if not is_entry:
        found.extend(wheres_as(library, method.result, "result"))
        for rung in rungs:
            if rung.name == duty.above:
                break
            found.extend(rung.method.post.clauses)
    found.extend(_way_facts(lines, duty))
    return each_once(found)


def claims_of(lines, duty):
    """The clauses that must follow, as often as they are written."""
    rungs = lines.rungs_of(duty.slot, duty.heir)
    if isinstance(duty, HeirEntry):
        return list(rungs[0].method.pre.clauses)
    return [clause for rung in rungs if rung.name == duty.above for clause in rung.method.post.clauses]
