"""Whether the numbers of a breach show that the party that it blames broke what it owes.

A breach may be made by hand, of anything. So each function that looks for the clauses of a kind returns a pair of
those that have to hold and those of which one has to fail, or None if the parts of the breach do not go together.
"""

from contractheirs.checks import HeirExit
from contractheirs.classes import written
from contractheirs.conditions import first_broken
from contractheirs.errors import Breach
from contractheirs.forms import is_integer
from contractheirs.heirs import is_duty
from contractheirs.lines import Lines
from contractheirs.slots import has_slot


def _asked_by_call(library, breach):
    slot = breach.slot
    if breach.side != "entry" or not has_slot(library, slot):
        return None
    if breach.of != slot.owner or breach.blamed != breach.site[0]:
        return None
    rungs = Lines(library).rungs_of(slot, breach.of)
    return ([], rungs[0].method.pre.clauses)


def _asked_by_new(library, breach):
    if breach.side != "entry" or breach.slot is not None or breach.blamed != breach.site[0]:
        return None
    return ([], library.where_of(breach.of))


def _asked_by_body(library, breach):
    owner, name, _ = breach.site
    if breach.side != "exit" or breach.slot is not None or breach.blamed != owner or breach.of != owner:
        return None
    method = written(library[breach.of], name)
    return None if method is None else (method.pre.clauses, method.post.clauses)


def _asked_by_heir(library, breach):
    if breach.side == "entry":
        return _asked_at_entry(Lines(library), breach)
    if breach.side == "exit":
        return _asked_at_exit(Lines(library), breach)
    return None


def _asked_at_entry(lines, breach):
    slot = breach.slot
    if not has_slot(lines.library, slot) or breach.blamed != breach.of or not lines.is_heir(breach.of, slot.owner):
        return None
    rungs = lines.rungs_of(slot, breach.of)
    return ([clause for rung in rungs[1:] for clause in rung.method.pre.clauses], rungs[0].method.pre.clauses)


def _asked_at_exit(lines, breach):
    if not is_duty(lines, HeirExit(breach.blamed, breach.slot, breach.of)):
        return None
    rungs = lines.rungs_of(breach.slot, breach.blamed)
    holding = [clause for rung in rungs for clause in rung.method.pre.clauses]
    for rung in rungs:
        if rung.name == breach.of:
            return (holding, rung.method.post.clauses)
        holding.extend(rung.method.post.clauses)
    return None


ASKED = {"call": _asked_by_call, "new": _asked_by_new, "body": _asked_by_body, "heir": _asked_by_heir}


def at_fault(library, breach):
    """Whether an object is a breach, and its numbers show that the blamed party broke what it owes."""
    if not isinstance(breach, Breach) or breach.of not in library:
        return False
    if not isinstance(breach.site, tuple) or len(breach.site) != 3:
        return False
    if not isinstance(breach.kind, str) or breach.kind not in ASKED:
        return False
    look = ASKED[breach.kind]
    found = look(library, breach)
    if found is None:
        return False
    holding, failing = found
    return _are_integers(breach.numbers, holding) and _are_integers(breach.numbers, failing) and _shows(breach, found)


def _are_integers(numbers, clauses):
    """Whether a thing is a dict that has an integer for each term of some clauses."""
    if not isinstance(numbers, dict):
        return False
    terms = [term for clause in clauses for literal in clause for term in literal[:2]]
    return all([term == "" or is_integer(numbers.get(term)) for term in terms])


def _shows(breach, found):
    holding, failing = found
    if not is_integer(breach.clause) or first_broken(holding, breach.numbers) is not None:
        return False
    return first_broken(failing, breach.numbers) == breach.clause
