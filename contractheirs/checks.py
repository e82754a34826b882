"""The checks that a run makes.

Each of the five checks at the end writes its own making and its own equality: one of a class is equal to
none of another, even if the values are.
"""


class Check:
    """A check."""


class OnSite(Check):
    """A check that a site asks for."""

    def __init__(self, site):
        self.site = site


class OnLine(Check):
    """A check that the contract of an heir asks for, where it goes with those of its line."""

    def __init__(self, heir, slot):
        self.heir = heir
        self.slot = slot


class AtEntry(Check):
    """A check ahead of a body, or of an object."""

    SIDE = "entry"


class AtExit(Check):
    """A check behind a body."""

    SIDE = "exit"


class CallCheck(OnSite, AtEntry):
    """The check of the owner's precondition at a call or next."""

    def __init__(self, site):
        OnSite.__init__(self, site)

    def __eq__(self, other):
        return isinstance(other, CallCheck) and self.site == other.site


class NewCheck(OnSite, AtEntry):
    """The check of the wheres at a new."""

    def __init__(self, site):
        OnSite.__init__(self, site)

    def __eq__(self, other):
        return isinstance(other, NewCheck) and self.site == other.site


class BodyCheck(OnSite, AtExit):
    """The check of a method's own postcondition at a return."""

    def __init__(self, site):
        OnSite.__init__(self, site)

    def __eq__(self, other):
        return isinstance(other, BodyCheck) and self.site == other.site


class HeirEntry(OnLine, AtEntry):
    """The check of an heir's precondition."""

    def __init__(self, heir, slot):
        OnLine.__init__(self, heir, slot)

    def __eq__(self, other):
        return isinstance(other, HeirEntry) and self.heir == other.heir and self.slot == other.slot


class HeirExit(OnLine, AtExit):
    """The check of a postcondition above an heir, for which the heir would be to blame."""

    def __init__(self, heir, slot, above):
        OnLine.__init__(self, heir, slot)
        self.above = above

    def __eq__(self, other):
        return (
            isinstance(other, HeirExit)
            and self.heir == other.heir
            and self.slot == other.slot
            and self.above == other.above
        )
