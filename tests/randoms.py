"""Random libraries, clients and tapes: small ones, in which much goes wrong."""

from contractheirs.classes import ClassDef, Method
from contractheirs.conditions import Cond
from contractheirs.errors import BadLibrary
from contractheirs.libraries import Library

NAMES = "abcdefgh"
WORDS = ["int", "ask", "new", "new", "call", "call", "call", "next", "next", "next", "as"]
# A client begins without objects.
CLIENT_WORDS = ["ask", "new", "new", "new", "new", "call", "call", "call", "call", "call", "call", "as"]


class Bodies:
    """Random bodies in a library, by its classes alone."""

    def __init__(self, rng, library, owner=None, method=None):
        self.rng = rng
        self.library = library
        self.owner = owner
        self.method = method
        self.many = 0

    def below(self, kind, env):
        """The object variables of which the view is at or below a class."""
        return [name for name, seen in env.items() if seen and kind in self.library.order_of(seen[1])]

    def terms(self, env):
        found = [name for name, seen in env.items() if seen is None]
        for name, seen in env.items():
            if seen:
                found.extend(f"{name}.{field}" for field in self.library.fields_of(seen[0]))
        return found

    def value(self, env):
        terms = self.terms(env)
        if terms and self.rng.random() < 0.6:
            return (self.rng.choice(terms), self.rng.randrange(-1, 2))
        return ("", self.rng.randrange(-3, 4))

    def literal(self, env):
        return (*[self.value(env)[0] for _ in range(2)], self.rng.randrange(-2, 3))

    def body(self, budget=None):
        env = {}
        if self.method is not None:
            env["self"] = (self.owner, self.owner, False)
            for name, kind in self.method.params:
                env[name] = None if kind == "int" else (kind, kind, False)
        self.ifs = 0
        return self.statement(env, self.rng.randrange(1, 9) if budget is None else budget, 0, 4)

    def fresh(self):
        self.many += 1
        return "v" + chr(97 + self.many // 26) + chr(97 + self.many % 26)

    def statement(self, env, budget, tries, calls):
        roll = self.rng.random()
        if budget <= 0:
            return self.end(env)
        if roll < 0.12 and self.ifs < 4:
            self.ifs += 1
            return ("if", self.literal(env), *[self.statement(env, budget // 2, tries, calls) for _ in range(2)])
        if roll < 0.28 and tries < 2:
            parts = [self.statement(env, budget - 2, tries + 1, calls // 2) for _ in range(2)]
            return ("try", *parts)
        return self.let(env, budget, tries, calls)

    def let(self, env, budget, tries, calls):
        word = self.rng.choice(WORDS if self.method else CLIENT_WORDS)
        found = None
        if word in ("call", "next") and calls > 0:
            found = self.call(env) if word == "call" else self.following(env)
            calls -= found is not None
        elif word == "new":
            found = self.new(self.rng.choice(self.library.names), env)
        elif word == "as":
            found = self.seen_as(env)
        if found is None:
            found = (("ask",), None) if word == "ask" else (("int", *self.value(env)), None)
        name = self.fresh()
        expression, seen = found
        return ("let", name, expression, self.statement({**env, name: seen}, budget - 1, tries, calls))

    def new(self, kind, env):
        values = tuple(self.value(env) for _ in self.library.fields_of(kind))
        return (("new", kind, values), (kind, kind, True))

    def seen_as(self, env):
        objects = [name for name, seen in env.items() if seen]
        if not objects:
            return None
        name = self.rng.choice(objects)
        known, view, fresh = env[name]
        above = self.rng.choice(self.library.order_of(view))
        return (("as", name, above), (known, above, fresh))

    def writes(self, kind, name):
        writer = self.library[self.library.writer_of(kind, name)]
        return [method for method in writer.methods if method.name == name][0]

    def given(self, method, env):
        items = []
        for _, kind in method.params:
            if kind == "int":
                items.append(self.value(env))
            else:
                names = self.below(kind, env)
                if not names:
                    return None
                items.append(self.rng.choice(names))
        return tuple(items)

    def call(self, env):
        asked = []
        for name, seen in env.items():
            for method in self.library.methods_of(seen[1]) if seen else []:
                own = self.method is not None and method == self.method.name and seen[2]
                if not own or self.library.writer_of(seen[0], method) != self.owner:
                    asked.append((name, method))
        if not asked:
            return None
        name, method = self.rng.choice(asked)
        method = self.writes(env[name][1], method)
        items = self.given(method, env)
        return items is not None and self.made(("call", name, method.name, items), method) or None

    def following(self, env):
        if self.method is None:
            return None
        behind = self.library.order_of(self.owner)[1:]
        if not any(method.name == self.method.name for each in behind for method in self.library[each].methods):
            return None
        items = self.given(self.method, env)
        return items is not None and self.made(("next", items), self.method) or None

    def made(self, expression, method):
        kind = method.result
        return (expression, None if kind == "int" else (kind, kind, False))

    def end(self, env):
        kind = "int" if self.method is None else self.method.result
        if self.rng.random() < 0.08:
            return ("halt",)
        if kind == "int":
            return ("return", self.value(env))
        names = self.below(kind, env)
        if names:
            return ("return", self.rng.choice(names))
        name = self.fresh()
        return ("let", name, self.new(kind, env)[0], ("return", name))


def condition(rng, terms, most, double=True):
    """A random condition, more often one that may hold."""
    clauses = []
    for _ in range(rng.randrange(most + 1)):
        pool = list(terms) + [""]
        many = 2 if double and rng.random() < 0.3 else 1
        double = double and many == 1
        clauses.append(tuple((rng.choice(pool), rng.choice(pool), rng.randrange(-1, 4)) for _ in range(many)))
    return Cond(*clauses)


def signatures(rng, names):
    def kind():
        return rng.choice(["int", rng.choice(names)])
    return {
        "m": ((("x", "int"),), "int"),
        "n": ((("x", "int"), ("p", rng.choice(names))), kind()),
        "k": ((("q", rng.choice(names)), ("x", kind())), kind()),
        "g": ((), rng.choice(names)),
    }


def classes(rng, names):
    """Random classes without wheres and methods that make a library."""
    while True:
        found = []
        for at, name in enumerate(names):
            bases = tuple(rng.sample(names[:at], rng.randrange(min(at, 2 + (rng.random() < 0.2)) + 1)))
            fields = tuple(name + each for each in "fgh"[:rng.choice([0, 0, 1, 1, 2])])
            found.append(ClassDef(name, bases, fields=fields))
        try:
            return Library(*found)
        except BadLibrary:
            pass


def terms_of(library, name, kind):
    return [name] if kind == "int" else [f"{name}.{field}" for field in library.fields_of(kind)]


def library(rng, most=5, weight=2, bodies=True, dense=False):
    """A random library of two classes or more; conditions have at most weight clauses.

    In a dense one nearly all classes write the same method.
    """
    names = list(NAMES[:rng.randrange(2, most + 1)])
    plain = classes(rng, names)
    signed = signatures(rng, names)
    # Few names make many classes write the same method.
    pool = rng.sample(sorted(signed), 1 if dense else rng.randrange(1, 4))
    bare = []
    for name in names:
        methods = []
        for each in pool if dense and rng.random() < 0.8 else rng.sample(pool, rng.randrange(len(pool) + 1)):
            params, result = signed[each]
            entry = [term for param, kind in (("self", name), *params) for term in terms_of(plain, param, kind)]
            post = condition(rng, entry + 2 * terms_of(plain, "result", result), weight)
            methods.append(Method(each, params, result, pre=condition(rng, entry, weight), post=post, body=("halt",)))
        one = plain[name]
        where = condition(rng, terms_of(plain, "self", name), weight if rng.random() < 0.3 else 0, double=False)
        bare.append(ClassDef(name, one.bases, fields=one.fields, where=where, methods=tuple(methods)))
    rng.shuffle(bare)
    skeleton = Library(*bare)
    return with_bodies(rng, skeleton) if bodies else skeleton


def with_bodies(rng, skeleton):
    found = []
    for one in skeleton.classes:
        methods = []
        for method in one.methods:
            body = Bodies(rng, skeleton, one.name, method).body()
            methods.append(Method(method.name, method.params, method.result, pre=method.pre, post=method.post, body=body))
        found.append(ClassDef(one.name, one.bases, fields=one.fields, where=one.where, methods=tuple(methods)))
    return Library(*found)


def client(rng, library):
    if rng.random() < 0.5:
        return Bodies(rng, library).body(rng.randrange(3, 14))
    calls = [seen_from_above(rng, library) for _ in range(rng.randrange(1, 4))]
    body = ("return", ("", 0))
    for call in calls:
        body = ("try", call, body) if rng.random() < 0.7 else call
    return body


def seen_from_above(rng, library):
    """A client that makes objects and calls one of them, seen as a class above it."""
    asked = [(name, above, method) for name in library.names for above in library.order_of(name)
             for method in library.methods_of(above)]
    if not asked:
        return ("halt",)
    name, above, method = rng.choice(asked)

    def new(kind):
        below = rng.choice([each for each in library.names if kind in library.order_of(each)])
        return ("new", below, tuple(("", rng.randrange(-2, 3)) for _ in library.fields_of(below)))
    fields = tuple(("", rng.randrange(-2, 3)) for _ in library.fields_of(name))
    lets = [("o", ("new", name, fields)), ("t", ("as", "o", above))]
    given = []
    writer = library[library.writer_of(above, method)]
    for at, (_, kind) in enumerate([each for each in writer.methods if each.name == method][0].params):
        given.append(("", rng.randrange(-3, 5)) if kind == "int" else f"p{'abc'[at]}")
        if kind != "int":
            lets.append((given[-1], new(kind)))
    body = ("let", "r", ("call", "t", method, tuple(given)), ("return", ("", 1)))
    for variable, expression in lets[::-1]:
        body = ("let", variable, expression, body)
    return body


def tape(rng):
    return [rng.randrange(-3, 4) for _ in range(rng.randrange(12))]
