"""Which duties heirs have, and whether they keep them."""

from contractheirs.classes import written
from contractheirs.errors import NoDuty, NoMethod, Unkept
from contractheirs.heirs import claims_of, duties_of, facts_of, is_duty, writers_of
from contractheirs.judging import judged
from contractheirs.libraries import Library
from contractheirs.lines import Lines


def duties(library):
    """All duties of a library: by heir, by slot, the entry first, then by the class above."""
    lines = Lines(library)
    for heir in library.names:
        for duty in duties_of(lines, heir):
            yield duty


def _checked_lines(library, duty):
    """The lines of a library; raises NoDuty for what is no duty of it."""
    lines = Lines(library)
    if not is_duty(lines, duty):
        raise NoDuty(duty)
    return lines


def duty_facts(library, duty):
    """The clauses that hold when a duty is asked, each once."""
    return facts_of(_checked_lines(library, duty), duty)


def duty_claims(library, duty):
    """The clauses that must follow from the facts of a duty."""
    return claims_of(_checked_lines(library, duty), duty)


def _judged(lines, duty):
    claims = claims_of(lines, duty)
    return judged(facts_of(lines, duty), claims) if claims else (None, None, [])


def verdict(library, duty):
    """Returns ("broken", integers that show it) or ("kept", a closed tree for each claim)."""
    _, values, trees = _judged(_checked_lines(library, duty), duty)
    return ("kept", trees) if values is None else ("broken", values)


def kept_duties(lines, heir):
    """The duties of a class that are kept, as a list in their order."""
    return [duty for duty in duties_of(lines, heir) if _judged(lines, duty)[1] is None]


def first_broken_duty(lines, heir):
    """The first duty of a class that is broken, or None."""
    for duty in duties_of(lines, heir):
        if _judged(lines, duty)[1] is not None:
            return duty
    return None


def all_kept(library):
    """Whether no duty of a library is broken."""
    lines = Lines(library)
    for heir in library.names:
        if first_broken_duty(lines, heir) is not None:
            return False
    return True


def admitted(library, classdef):
    """The library with a new class, if it keeps all its duties there."""
    # Not by changed: a class that is there already must not be replaced.
    larger = Library(*library.classes, classdef)
    duty = first_broken_duty(Lines(larger), classdef.name)
    if duty is not None:
        raise Unkept(duty)
    return larger


def touched(library, name, method):
    """The duties that ask the contract which a class writes for a method, as a list in their order."""
    if written(library[name], method) is None:
        raise NoMethod(method)
    lines = Lines(library)
    found = [duty for heir in library.names for duty in duties_of(lines, heir) if duty.slot.method == method]
    return [duty for duty in found if name in writers_of(lines, duty)]
