"""The errors of the package.

None of them makes a message of its own: Python shows the values that an error was made of.
"""


class ContractError(ValueError):
    """The base class of all errors of the package."""


class BadCond(ContractError):
    """An argument of Cond cannot stand there."""

    def __init__(self, clause):
        self.clause = clause


class NoValue(ContractError):
    """A term has no value."""

    def __init__(self, term):
        self.term = term


class NoClauses(ContractError):
    """An object is no list of clauses."""

    def __init__(self, at):
        self.at = at


class BadLibrary(ContractError):
    """Classes make no library."""

    def __init__(self, at, why):
        self.at = at
        self.why = why


class NoClass(ContractError):
    """A library has no such class."""

    def __init__(self, name):
        self.name = name


class NoMethod(ContractError):
    """A class has no such method."""

    def __init__(self, method):
        self.method = method


class NoSlot(ContractError):
    """There is no such slot."""

    def __init__(self, slot):
        self.slot = slot


class BadBody(ContractError):
    """A statement is wrong."""

    def __init__(self, at, why):
        self.at = at
        self.why = why


class NoSite(ContractError):
    """A body has no site at a place."""

    def __init__(self, place):
        self.place = place


class NoTape(ContractError):
    """An object is no tape."""

    def __init__(self, tape):
        self.tape = tape


class NoSteps(ContractError):
    """An object is no number of steps."""

    def __init__(self, steps):
        self.steps = steps


class NoChecks(ContractError):
    """An object is no list of checks."""

    def __init__(self, without):
        self.without = without


class TooLong(ContractError):
    """A run needs too many steps."""


class TooDeep(ContractError):
    """A run has too many open calls."""


class NoDuty(ContractError):
    """An object is no duty of a library."""

    def __init__(self, duty):
        self.duty = duty


class Unkept(ContractError):
    """A new class does not keep a duty."""

    def __init__(self, duty):
        self.duty = duty


class BadText(ContractError):
    """A row cannot stand in the text of a library."""

    def __init__(self, row):
        self.row = row


class Breach(ContractError):
    """A check failed, and somebody is to blame."""

    def __init__(self, kind, blamed, side, of, slot, site, numbers, clause, earlier):
        self.kind = kind
        self.blamed = blamed
        self.side = side
        self.of = of
        self.slot = slot
        self.site = site
        self.numbers = numbers
        self.clause = clause
        self.earlier = earlier
