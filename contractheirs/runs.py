"""Runs of clients: how they end, and the breaches that arise in them."""

from contractheirs.bodies import check_client
from contractheirs.checks import Check
from contractheirs.errors import Breach, NoChecks, NoSteps, NoTape
from contractheirs.forms import is_integer
from contractheirs.machines import Machine

MOST_STEPS = 2000


def _machine(library, client, tape, steps, without):
    """A machine for a run, if all that is passed can be passed."""
    check_client(library, client)
    if not isinstance(tape, (list, tuple)) or not all([is_integer(number) for number in tape]):
        raise NoTape(tape)
    if not is_integer(steps) or not 1 <= steps <= MOST_STEPS:
        raise NoSteps(steps)
    if not isinstance(without, (list, tuple)) or not all([isinstance(check, Check) for check in without]):
        raise NoChecks(without)
    return Machine(library, tape, steps, without)


def run(library, client, tape, *, steps=500, without=()):
    """Runs a client: returns ("returned", number) or ("halted",), or raises the breach that ends it."""
    return _machine(library, client, tape, steps, without).finish(client)


def breaches(library, client, tape, *, steps=500):
    """All breaches that arise in a run, those that are caught, too."""
    machine = _machine(library, client, tape, steps, ())
    try:
        machine.finish(client)
    except Breach:
        pass
    return machine.found
