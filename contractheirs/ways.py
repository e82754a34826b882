"""Which sites of a body can fail, and which checks are needless."""

from contractheirs.bodies import sites
from contractheirs.checks import BodyCheck, CallCheck, NewCheck
from contractheirs.duties import all_kept, kept_duties
from contractheirs.judging import judged
from contractheirs.lines import Lines
from contractheirs.paths import Walk, site_method, site_spot
from contractheirs.spots import claims_at
from contractheirs.terms import each_once


def ways(library, name, method, place):
    """The ways from the beginning of a body to a site, each as a list of the facts that hold there."""
    walk = Walk(Lines(library), name, site_method(library, name, method, place), place)
    spot = walk.following()
    while spot is not None:
        yield each_once(spot.facts)
        spot = walk.following()


def claims(library, name, method, place):
    """The clauses that the check of a site asks, with the terms of the body put in."""
    found = site_method(library, name, method, place)
    return claims_at(Lines(library), site_spot(library, name, found, place))


def first_failure(lines, owner, method, place):
    """None, or how the check of a site can fail: the spot at the end of a way, its facts, a claim's index, integers."""
    asked = claims_at(lines, site_spot(lines.library, owner, method, place))
    walk = Walk(lines, owner, method, place)
    spot = walk.following() if asked else None
    while spot is not None:
        facts = each_once(spot.facts)
        at, values, _ = judged(facts, asked)
        if at is not None:
            return (spot, facts, at, values)
        spot = walk.following()
    return None


def can_fail(library, name, method, place):
    """None, or a tuple of the facts of a way, the index of a claim, and integers for which it fails there."""
    found = first_failure(Lines(library), name, site_method(library, name, method, place), place)
    if found is None:
        return None
    _, facts, at, values = found
    return (facts, at, values)


def closed_ways(library, name, method, place):
    """None if a site can fail, else the facts of each way with a closed tree for each claim."""
    lines = Lines(library)
    its = site_method(library, name, method, place)
    asked = claims_at(lines, site_spot(library, name, its, place))
    walk = Walk(lines, name, its, place)
    found = []
    spot = walk.following()
    while spot is not None:
        facts = each_once(spot.facts)
        at, _, trees = judged(facts, asked)
        if at is not None:
            return None
        found.append((facts, trees))
        spot = walk.following()
    return found


def _check_at(lines, owner, method, place):
    """The check of a site."""
    word = site_spot(lines.library, owner, method, place).act()[0]
    site = (owner, method.name, place)
    if word == "new":
        return NewCheck(site)
    return BodyCheck(site) if word == "return" else CallCheck(site)


def _places(library):
    """The sites of all bodies, as tuples (class, the Method itself, place)."""
    found = []
    for name in library.names:
        for method in library[name].methods:
            found.extend([(name, method, site[2]) for site in sites(library, name, method.name)])
    return found


def needless(library):
    """The checks that are never asked for in vain: those of sites that cannot fail, then the duties that are kept."""
    lines = Lines(library)
    found = []
    for owner, method, place in _places(library):
        if first_failure(lines, owner, method, place) is None:
            found.append(_check_at(lines, owner, method, place))
    for heir in library.names:
        found.extend(kept_duties(lines, heir))
    return found


def is_sound(library):
    """Whether no site of a body can fail and no duty is broken."""
    lines = Lines(library)
    for owner, method, place in _places(library):
        if first_failure(lines, owner, method, place) is not None:
            return False
    return all_kept(library)
