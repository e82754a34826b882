"""The interface of the document: each name stands in its file, takes its arguments, and leaves them as they were."""

import ast
import copy
import importlib
import inspect
import pathlib
import random
import unittest

from contractheirs.bodies import sites
from contractheirs.duties import duties
from contractheirs.errors import BadLibrary
from tests import randoms
from tests.rows import BACK
from tests.support import VALUED

FOLDER = pathlib.Path(__file__).parent.parent / "contractheirs"

# The names of each file with their parameters.
NAMES = {
    "cases": {"decide": "(clauses)", "closes": "(clauses, tree)", "negated": "(clause)"},
    "conditions": {"Cond": "(*clauses)"},
    "classes": {"Method": "(name, params, result, *, pre=None, post=None, body)",
                "ClassDef": "(name, bases=(), *, fields=(), where=None, methods=())"},
    "slots": {"Slot": "(word, owner, method)", "line": "(library, slot, name)"},
    "checks": {"Check": None, "OnSite": None, "OnLine": None, "AtEntry": None, "AtExit": None, "CallCheck": "(site)",
               "NewCheck": "(site)", "BodyCheck": "(site)", "HeirEntry": "(heir, slot)", "HeirExit": "(heir, slot, above)"},
    "bodies": {"check_client": "(library, client)", "sites": "(library, name, method)"},
    "libraries": {"Library": "(*classes)"},
    "runs": {"run": "(library, client, tape, *, steps=500, without=())", "breaches": "(library, client, tape, *, steps=500)"},
    "duties": {"duties": "(library)", "duty_facts": "(library, duty)", "duty_claims": "(library, duty)", "verdict": "(library, duty)",
               "all_kept": "(library)", "admitted": "(library, classdef)", "touched": "(library, name, method)"},
    "faults": {"at_fault": "(library, breach)"},
    "ways": {"ways": "(library, name, method, place)", "claims": "(library, name, method, place)",
             "can_fail": "(library, name, method, place)", "closed_ways": "(library, name, method, place)", "needless": "(library)",
             "is_sound": "(library)"},
    "worlds": {"World": "(library, client, tape)", "spoiling_world": "(library, name, method, place)",
               "blaming_world": "(library, duty)"},
    "answers": {"answer": "(library, name, method, values)", "unanswered": "(library, name, method)",
                "unanswered_facts": "(library, name, method)"},
    "texts": {"shown": "(library)", "read": "(text)"},
    "errors": {"ContractError": None, "TooLong": None, "TooDeep": None, **{name: None for name in VALUED}},
}

METHODS = {
    "Cond": "__init__ __call__ __and__ __eq__ __len__ between equal implies", "Method": "__init__ __eq__", "ClassDef": "__init__ __eq__",
    "Slot": "__init__ __call__ __eq__", "CallCheck": "__init__ __eq__", "NewCheck": "__init__ __eq__", "BodyCheck": "__init__ __eq__",
    "HeirEntry": "__init__ __eq__", "HeirExit": "__init__ __eq__", "World": "__init__",
    "Library": "__init__ __getitem__ __contains__ order_of fields_of where_of methods_of writer_of changed",
}

GENERATORS = [("bodies", "sites"), ("duties", "duties"), ("ways", "ways")]


def named(module, name):
    return getattr(importlib.import_module("contractheirs." + module), name)


class Interface(unittest.TestCase):

    def test_each_name_is_defined_in_its_file(self):
        for module, names in NAMES.items():
            tree = ast.parse((FOLDER / (module + ".py")).read_text())
            defined = {node.name for node in tree.body if isinstance(node, (ast.FunctionDef, ast.ClassDef))}
            self.assertLessEqual(set(names), defined, module)
            for name in names:
                self.assertEqual(named(module, name).__module__, "contractheirs." + module)

    def test_parameters(self):
        for module, names in NAMES.items():
            for name, wanted in names.items():
                if wanted is not None:
                    self.assertEqual(str(inspect.signature(named(module, name))), wanted, name)

    def test_methods_stand_in_their_classes(self):
        for module, names in NAMES.items():
            for name in names:
                if name in METHODS:
                    self.assertLessEqual(set(METHODS[name].split()), set(vars(named(module, name))), name)

    def test_generators(self):
        for module, name in GENERATORS:
            self.assertTrue(inspect.isgeneratorfunction(named(module, name)))

    def test_the_folder_has_nothing_else(self):
        self.assertEqual([path.name for path in FOLDER.iterdir() if path.suffix != ".py" and path.name != "__pycache__"], [])


class Kept(unittest.TestCase):
    """[0.3]: no argument is changed, and what is returned may be changed without harm."""

    def spoil(self, found):
        """Clears all lists and dicts in something, but not in objects."""
        if isinstance(found, (list, tuple)):
            for one in found:
                self.spoil(one)
        if isinstance(found, (list, dict)):
            found.clear()

    def plain(self, library):
        return copy.deepcopy([vars(one) for one in library.classes]), library.names, copy.deepcopy(vars(library)["_orders"])

    def asks(self, library):
        """Calls without arguments, for all that can be asked of a library."""
        for module, name in [("duties", "duties"), ("duties", "all_kept"), ("ways", "needless"), ("ways", "is_sound"), ("texts", "shown")]:
            yield lambda ask=named(module, name): ask(library)
        for duty in duties(library):
            for name in ("duty_facts", "duty_claims", "verdict"):
                yield lambda ask=named("duties", name), duty=duty: ask(library, duty)
        for name in library.names:
            for question in ("order_of", "fields_of", "where_of", "methods_of"):
                yield lambda question=question, name=name: getattr(library, question)(name)
            for method in library[name].methods:
                yield lambda name=name, method=method: named("duties", "touched")(library, name, method.name)
                if method.result == "int":
                    for ask in ("unanswered", "unanswered_facts"):
                        yield lambda ask=ask, name=name, method=method: named("answers", ask)(library, name, method.name)
                for site in sites(library, name, method.name):
                    for ask in ("ways", "claims", "can_fail", "closed_ways"):
                        yield lambda ask=ask, site=site: named("ways", ask)(library, *site)

    def test_all_that_is_asked_of_a_library(self):
        many = 0
        for seed in range(12):
            try:
                library = randoms.library(random.Random(seed), most=4)
            except BadLibrary:
                continue
            before = self.plain(library)
            for ask in self.asks(library):
                first = ask()
                first = list(first) if inspect.isgenerator(first) else first
                # Objects of the package are shown by where they stand.
                shown = None if "object at" in repr(first) else repr(first)
                self.spoil(first)
                again = ask()
                again = list(again) if inspect.isgenerator(again) else again
                if shown is not None:
                    self.assertEqual(repr(again), shown)
                many += 1
            self.assertEqual(self.plain(library), before)
        self.assertGreater(many, 500)

    def test_runs(self):
        run, breaches = named("runs", "run"), named("runs", "breaches")
        library = randoms.library(random.Random(3))
        tape, without = [1, 2], []
        run(library, BACK, tape, without=without)
        breaches(library, BACK, tape)
        self.assertEqual((tape, without), ([1, 2], []))


if __name__ == "__main__":
    unittest.main()
