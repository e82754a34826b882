"""[5.3]: places and sites."""

import inspect
import unittest

from contractheirs.bodies import sites
from contractheirs.classes import ClassDef
from contractheirs.errors import NoClass, NoMethod
from contractheirs.libraries import Library
from tests.rows import ASK, BACK, HALT, ONE, attempt, call, classes, following, let, lets, method, new, told, when
from tests.support import things

ODD = [[], {}, {"left"}, ["left"], ("left",), ("left", "m"), "zz", "A", b"left"]


def found(key, body):
    """The places of the sites of a body; what else a site has is looked at here."""
    library = Library(*classes(**{key: body}))
    owner, name = ("left", key) if key in ("m", "t", "u") else ("lone", key)
    rows = list(sites(library, owner, name))
    for site in rows:
        assert type(site) is tuple and type(site[2]) is tuple and site[:2] == (owner, name), site
        assert all(type(one) is int for one in site[2]), site
    return [site[2] for site in rows]


class Places(unittest.TestCase):

    def test_each_kind(self):
        self.assertEqual(found("t", BACK), [()])
        self.assertEqual(found("u", ("return", "self")), [()])
        self.assertEqual(found("t", HALT), [])
        self.assertEqual(found("t", let("y", ASK, HALT)), [])
        self.assertEqual(found("t", let("y", ("int", "x", 1), HALT)), [])
        self.assertEqual(found("t", let("y", ("as", "self", "top"), HALT)), [])
        self.assertEqual(found("t", let("y", new("lone"), HALT)), [()])
        self.assertEqual(found("t", let("y", call("self", "mk"), HALT)), [()])
        self.assertEqual(found("m", let("y", following(ONE), HALT)), [()])
        self.assertEqual(found("t", when(HALT, HALT)), [])
        self.assertEqual(found("t", attempt(HALT, HALT)), [])

    def test_parts(self):
        self.assertEqual(found("t", let("y", ASK)), [(0,)])
        self.assertEqual(found("t", let("y", new("lone"))), [(), (0,)])
        self.assertEqual(found("t", when(BACK, BACK)), [(0,), (1,)])
        self.assertEqual(found("t", when(HALT, BACK)), [(1,)])
        self.assertEqual(found("t", attempt(BACK, BACK)), [(0,), (1,)])
        self.assertEqual(found("t", attempt(BACK, HALT)), [(0,)])

    def test_order(self):
        body = let("a", new("lone"), when(
            let("b", ASK, attempt(let("c", call("a", "go"), BACK), let("c", call("self", "mk"), when(BACK, HALT)))),
            let("b", new("lone"), attempt(when(HALT, BACK), BACK)),
        ))
        self.assertEqual(found("t", body), [
            (), (0, 0, 0, 0), (0, 0, 0, 0, 0), (0, 0, 0, 1), (0, 0, 0, 1, 0, 0), (0, 1), (0, 1, 0, 0, 1), (0, 1, 0, 1),
        ])

    def test_long_bodies(self):
        self.assertEqual(found("t", lets(39)), [(0,) * 39])
        self.assertEqual(found("t", lets(39, BACK, new("lone"))), [(0,) * k for k in range(40)])

    def test_places_are_those_of_errors(self):
        bad = ("return", ("nix", 0))
        body = when(HALT, attempt(let("y", ASK, HALT), let("y", ASK, bad)))
        self.assertEqual(told("t", body), ((1, 1, 0), "term"))
        self.assertEqual(found("t", when(HALT, attempt(let("y", ASK, HALT), let("y", ASK)))), [(1, 1, 0)])


class Asked(unittest.TestCase):

    def test_is_a_generator(self):
        self.assertTrue(inspect.isgeneratorfunction(sites))
        library = Library(*classes(t=let("y", new("lone"))))
        running = sites(library, "left", "t")
        self.assertEqual(next(running), ("left", "t", ()))
        self.assertEqual(next(running), ("left", "t", (0,)))
        with self.assertRaises(StopIteration):
            next(running)
        self.assertEqual(list(sites(library, "left", "t")), [("left", "t", ()), ("left", "t", (0,))])

    def test_each_class_has_its_own(self):
        library = Library(*classes(top=BACK, m=let("y", following(ONE)), lower=when(BACK, BACK)))
        self.assertEqual(list(sites(library, "top", "m")), [("top", "m", ())])
        self.assertEqual(list(sites(library, "left", "m")), [("left", "m", ()), ("left", "m", (0,))])
        self.assertEqual(list(sites(library, "right", "m")), [])
        self.assertEqual(list(sites(library, "lower", "m")), [("lower", "m", (0,)), ("lower", "m", (1,))])

    def test_no_class(self):
        library = Library(*classes())
        for thing in things() + ODD:
            for name in ("m", "zz", None, []):
                running = sites(library, thing, name)
                with self.assertRaises(NoClass) as caught:
                    next(running)
                self.assertIs(caught.exception.name, thing)

    def test_no_method(self):
        library = Library(*classes())
        for thing in things() + ODD + ["go", "w", "mk"]:
            running = sites(library, "left", thing)
            with self.assertRaises(NoMethod) as caught:
                next(running)
            self.assertIs(caught.exception.method, thing)

    def test_a_method_that_is_only_had(self):
        library = Library(*classes(m=BACK), ClassDef("heir", ("left",)))
        for owner, name in [("left", "mk"), ("low", "m"), ("heir", "m"), ("heir", "t"), ("lower", "w")]:
            self.assertIn(name, library.methods_of(owner))
            with self.assertRaises(NoMethod) as caught:
                list(sites(library, owner, name))
            self.assertEqual(caught.exception.method, name)

    def test_nothing_is_raised_until_it_is_asked(self):
        library = Library(*classes())
        for name, word in [(None, "m"), ([], []), ("left", "zz"), ("low", "m")]:
            self.assertTrue(inspect.isgenerator(sites(library, name, word)))

    def test_where_it_stands(self):
        self.assertEqual(sites.__module__, "contractheirs.bodies")

    def test_methods_as_written(self):
        written = ClassDef("one", methods=(method("b", (), "int", BACK), method("a", (), "int")))
        library = Library(written)
        self.assertEqual([list(sites(library, "one", name)) for name in ("a", "b")], [[], [("one", "b", ())]])


if __name__ == "__main__":
    unittest.main()
