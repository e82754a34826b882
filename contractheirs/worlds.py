"""Worlds: libraries, clients and tapes that show who can be to blame."""

from contractheirs.checks import HeirExit
from contractheirs.duties import verdict
from contractheirs.heirs import way_slots
from contractheirs.libraries import Library
from contractheirs.lines import Lines
from contractheirs.paths import site_method
from contractheirs.scripts import Writer, rewritten
from contractheirs.stages import Stage
from contractheirs.ways import first_failure


class World:
    """A library, a client that runs in it, and its tape."""

    def __init__(self, library, client, tape):
        self.library = library
        self.client = client
        self.tape = tape


def spoiling_world(library, name, method, place):
    """A world in which the check of a site fails, None if there is none."""
    its = site_method(library, name, method, place)
    found = first_failure(Lines(library), name, its, place)
    if found is None:
        return None
    spot, _, _, values = found
    stage = Stage(library, name, its, values, spot.events)
    classes = stage.all_classes()
    return World(Library(*classes), stage.opening(), stage.tape)


def blaming_world(library, duty):
    """A world whose run ends in a breach for which the heir of a duty is to blame, None if the duty is kept."""
    word, values = verdict(library, duty)
    if word == "kept":
        return None
    writer = Writer(library, values, {})
    answering = Lines(library).rungs_of(duty.slot, duty.heir)[0]
    method = answering.method
    # The client asks the first one of these slots, and each body that it leads to the following one.
    slots = way_slots(library, duty) + [duty.slot]
    prefixes = [f"{at}:" for at in range(len(slots) - 1)] + [""]
    bodies = {}
    for slot, prefix in zip(slots[1:], prefixes[1:]):
        bodies[(slot.owner, slot.method)] = writer.passing_body(method, prefix)
    if isinstance(duty, HeirExit):
        bodies[(answering.writer, method.name)] = writer.given_back(method.result, "result")
    client = writer.make_client(method, prefixes[0], duty.heir, slots[0].owner)
    classes = rewritten(library, bodies)
    return World(Library(*classes), client, [])
