"""What a run knows while a body runs: its objects and its variables."""

from contractheirs.statements import parts_of


class Thing:
    """An object of a run: its class, and a dict of its fields."""

    def __init__(self, name, fields):
        self.name = name
        self.fields = fields


class Sight:
    """A thing as a variable sees it."""

    def __init__(self, thing, view):
        self.thing = thing
        self.view = view


def seen_by(item, kind):
    """An integer, or the thing of a sight, for a variable of a kind."""
    return item if kind == "int" else Sight(item.thing, kind)


def numbers_of(library, name, kind, item):
    """The numbers of a parameter or a result that is declared with a kind."""
    if kind == "int":
        return {name: item}
    return {name + "." + field: item.thing.fields[field] for field in library.fields_of(kind)}


def numbers_of_fields(thing):
    """The numbers of all fields of a thing, as those of self."""
    return {"self." + field: number for field, number in thing.fields.items()}


class Frame:
    """A body that runs: a method that a class (the owner) writes, or a client, without owner and method.

    numbers are those of the entry, earlier is the breach that was current then. slot and rungs are those of
    the call or next that the frame waits for. tries has the place and the second part of each try of which the
    first part runs. The numbers of two variables of one name are never asked both, so one dict is enough.
    """

    def __init__(self, owner, method, variables, numbers, earlier, body):
        self.owner = owner
        self.method = method
        self.variables = variables
        self.numbers = numbers
        self.earlier = earlier
        self.statement = body
        self.place = ()
        self.tries = []
        self.slot = None
        self.rungs = None

    def here(self):
        """The site at which the frame is."""
        return (self.owner, None if self.method is None else self.method.name, self.place)

    def enter(self, at):
        """Goes to a part of the statement."""
        self.statement = parts_of(self.statement)[at]
        self.place += (at,)

    def attempt(self):
        """Goes to the first part of a try."""
        self.tries.append((self.place + (1,), parts_of(self.statement)[1]))
        self.enter(0)

    def recover(self):
        """Goes to the second part of the innermost try that is open; returns False if there is none."""
        if not self.tries:
            return False
        self.place, self.statement = self.tries.pop()
        return True

    def bind(self, item):
        """Gives the variable of the let its integer or object, and goes on behind it."""
        self.variables[self.statement[1]] = item
        self.enter(0)

    def worth(self, value):
        """The integer that a value (term, number) is."""
        term, plus = value
        if term == "":
            return plus
        variable, dot, field = term.partition(".")
        item = self.variables[variable]
        return plus + (item if dot == "" else item.thing.fields[field])

    def item(self, given):
        """The object or the integer that is handed over."""
        return self.variables[given] if isinstance(given, str) else self.worth(given)

    def holds(self, literal):
        """Whether the literal of an if holds."""
        left, right, number = literal
        return self.worth((left, 0)) <= self.worth((right, number))
