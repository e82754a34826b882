"""[3.2] to [3.4]: what slots and bodies ask of a library, and which classes make none."""

import random
import unittest

from contractheirs.classes import ClassDef, Method
from contractheirs.conditions import Cond
from contractheirs.errors import BadLibrary, ContractError, NoClass, NoMethod
from contractheirs.libraries import Library
from tests.rows import BACK, HALT, method
from tests.support import things

ODD = [[], {}, {"a"}, ["a"], ("a",), "zz", "A", "a ", b"a", ""]


def of(*bases, **by_name):
    """Classes of which only the bases matter: of("a") or of(a=(), b=("a",))."""
    return [ClassDef(name) for name in bases] + [ClassDef(name, row) for name, row in by_name.items()]


def python_order(bases):
    """The orders that Python itself gives to classes with these bases, None for one without an order."""
    made = {}
    for name, row in bases.items():
        try:
            made[name] = None if None in [made[base] for base in row] else type(name, tuple(made[b] for b in row), {})
        except TypeError:
            made[name] = None
    return {name: one and [each.__name__ for each in one.__mro__[:-1]] for name, one in made.items()}


class Orders(unittest.TestCase):

    def orders(self, **bases):
        library = Library(*of(**bases))
        return {name: library.order_of(name) for name in library.names}

    def test_orders(self):
        self.assertEqual(self.orders(a=(), b=("a",), c=("a",), d=("b", "c")), {
            "a": ["a"], "b": ["b", "a"], "c": ["c", "a"], "d": ["d", "b", "c", "a"],
        })
        self.assertEqual(self.orders(a=(), b=(), c=("b", "a"))["c"], ["c", "b", "a"])
        self.assertEqual(self.orders(d=("b", "c"), c=("a",), b=("a",), a=())["d"], ["d", "b", "c", "a"])

    def test_as_python_orders_them(self):
        rng = random.Random(1)
        without = 0
        for _ in range(600):
            names = [chr(97 + k) for k in range(rng.randrange(2, 9))]
            bases = {}
            for k, name in enumerate(names):
                bases[name] = tuple(rng.sample(names[:k], rng.randrange(min(k, 3) + 1)))
            wanted = python_order(bases)
            classes = of(**bases)
            rng.shuffle(classes)
            bad = [name for name in names if wanted[name] is None]
            if bad:
                without += 1
                with self.assertRaises(BadLibrary) as caught:
                    Library(*classes)
                self.assertEqual((caught.exception.at, caught.exception.why), (bad[0], "order"), bases)
            else:
                library = Library(*classes)
                self.assertEqual({name: library.order_of(name) for name in names}, wanted)
        self.assertGreater(without, 20)
        self.assertLess(without, 500)

    def test_a_new_list(self):
        library = Library(*of(a=(), b=("a",)))
        found = library.order_of("b")
        self.assertIs(type(found), list)
        found.clear()
        self.assertEqual(library.order_of("b"), ["b", "a"])


class Asked(unittest.TestCase):

    def setUp(self):
        clause = ClassDef("d", ("b", "c"), where=Cond((("self.f", "self.h", 1),), (("", "self.g", 2),)), methods=(
            method("w", (), "int"), method("m", (), "int")))
        self.classes = [
            clause,
            ClassDef("a", fields=("g", "f"), where=Cond((("", "self.f", 0),)), methods=(
                method("n", (), "int"), method("m", (), "int"))),
            ClassDef("c", ("a",), fields=("k",), where=Cond((("self.k", "self.f", 3),)), methods=(method("m", (), "int"),)),
            ClassDef("b", ("a",), fields=("h",)),
        ]
        self.library = Library(*self.classes)

    def test_names(self):
        self.assertEqual(self.library.names, ("a", "b", "c", "d"))
        self.assertEqual(Library().names, ())
        self.assertIn("names", vars(self.library))

    def test_classes(self):
        for one in self.classes:
            self.assertIs(self.library[one.name], one)
            self.assertTrue(one.name in self.library)

    def test_fields(self):
        found = {name: self.library.fields_of(name) for name in self.library.names}
        self.assertEqual(found, {
            "a": ["g", "f"], "b": ["g", "f", "h"], "c": ["g", "f", "k"], "d": ["g", "f", "k", "h"],
        })

    def test_wheres(self):
        first = (("", "self.f", 0),)
        second = (("self.k", "self.f", 3),)
        third = [(("self.f", "self.h", 1),), (("", "self.g", 2),)]
        found = {name: self.library.where_of(name) for name in self.library.names}
        self.assertEqual(found, {"a": [first], "b": [first], "c": [first, second], "d": [first, second, *third]})

    def test_methods(self):
        found = {name: self.library.methods_of(name) for name in self.library.names}
        self.assertEqual(found, {"a": ["m", "n"], "b": ["m", "n"], "c": ["m", "n"], "d": ["m", "n", "w"]})

    def test_writers(self):
        found = {name: self.library.writer_of(name, "m") for name in self.library.names}
        self.assertEqual(found, {"a": "a", "b": "a", "c": "c", "d": "d"})
        found = {name: self.library.writer_of(name, "n") for name in self.library.names}
        self.assertEqual(found, {"a": "a", "b": "a", "c": "a", "d": "a"})

    def test_new_lists(self):
        for ask in (self.library.fields_of, self.library.where_of, self.library.methods_of, self.library.order_of):
            found = ask("d")
            self.assertIs(type(found), list)
            kept = list(found)
            found.clear()
            self.assertEqual(ask("d"), kept)

    def test_no_class(self):
        asks = [
            self.library.order_of, self.library.fields_of, self.library.where_of, self.library.methods_of,
            lambda thing: self.library.writer_of(thing, "m"), lambda thing: self.library.writer_of(thing, []),
            lambda thing: self.library[thing],
        ]
        for thing in things() + ODD:
            self.assertIs(thing in self.library, False)
            for ask in asks:
                with self.assertRaises(NoClass) as caught:
                    ask(thing)
                self.assertIs(caught.exception.name, thing)

    def test_no_method(self):
        for thing in things() + ODD + ["w"]:
            with self.assertRaises(NoMethod) as caught:
                self.library.writer_of("c", thing)
            self.assertIs(caught.exception.method, thing)

    def test_not_iterated(self):
        with self.assertRaises(TypeError):
            list(self.library)

    def test_methods_stand_in_the_class(self):
        names = "__init__ __getitem__ __contains__ order_of fields_of where_of methods_of writer_of".split()
        self.assertLessEqual(set(names), set(vars(Library)))
        self.assertEqual(Library.__module__, "contractheirs.libraries")


class Refused(unittest.TestCase):

    def refused(self, at, why, *classes):
        with self.assertRaises(BadLibrary) as caught:
            Library(*classes)
        self.assertEqual((caught.exception.at, caught.exception.why), (at, why), classes)
        self.assertIs(type(caught.exception.at), type(at))

    def class_refused(self, why, **values):
        """A class that is refused itself, where another one stands behind it in the order of names."""
        first = [values.pop("name", "c"), values.pop("bases", ("a",))]
        made = ClassDef(*first, **values)
        self.refused("c", why, ClassDef("z", ("c",)), made, ClassDef("a", fields=("f",)))

    def method_refused(self, why, name="m", params=(("x", "int"), ("p", "a")), result="int", **values):
        made = Method(name, params, result, **{"body": HALT, **values})
        for one in (ClassDef("c", ("a",), fields=("g",), methods=(made,)),
                    ClassDef("c", ("a",), fields=("g",), methods=(method("k", (), "int"), made))):
            self.refused(("c", "m"), why, one, ClassDef("a", fields=("f",)))

    def test_classes(self):
        for thing in things() + ODD:
            if not isinstance(thing, ClassDef):
                self.refused(0, "classes", thing)
                self.refused(1, "classes", ClassDef("a"), thing, ClassDef("a"))
        for name in things() + [[], {}, ("a",), "A", "abcdefghi", "int", "self", "class", "", "a1"]:
            if name not in ("x", "ab", "abc", "cycle"):
                self.refused(1, "classes", ClassDef("a"), ClassDef(name))
        self.refused(2, "classes", *of("a", "b", "a", "b"))
        self.refused(1, "classes", ClassDef("a"), ClassDef("a", ("zz",)))

    def test_thirty_classes(self):
        names = [a + b for a in "abcdef" for b in "abcdef"]
        self.assertEqual(len(Library(*of(*names[:30])).names), 30)
        self.refused(30, "classes", *of(*names[:31]))
        self.refused(30, "classes", *of(*names[:36]))
        self.refused(4, "classes", *of(*names[:4]), None, *of(*names[4:]))

    def test_bases(self):
        for bases in things() + [[], ["a"], {"a": 1}, ("b",), ("a", "a"), ("A",), (None,), ([],), "a", ("a", "z", "b")]:
            if bases != ():
                self.class_refused("bases", bases=bases)
        self.refused("e", "bases", *of("a", "b", "c", "d", e=("a", "b", "c", "d")))
        self.assertIn("e", Library(*of("a", "b", "c", "d", e=("a", "b", "c"))))
        self.refused("a", "bases", *of(b=("zz",), a=("yy",)))

    def test_ring(self):
        self.refused("a", "ring", ClassDef("b"), ClassDef("a", ("a",)))
        self.refused("a", "ring", *of(b=("a",), a=("b",)))
        self.refused("b", "ring", *of(a=("b",), b=("c",), c=("d",), d=("b",)))
        self.refused("c", "bases", *of(a=("a",), c=("zz",)))

    def test_order(self):
        self.refused("c", "order", *of(a=(), b=("a",), c=("a", "b")))
        self.refused("e", "order", *of(a=(), b=(), c=("a", "b"), d=("b", "a"), e=("c", "d")))
        # One whose base has none has none itself.
        self.refused("c", "order", *of(c=("d",), a=(), b=("a",), d=("a", "b")))
        self.refused("z", "ring", *of(a=(), b=("a",), c=("a", "b"), z=("z",)))

    def test_fields(self):
        odd = [[], ["g"], ("g", "g"), ("g", "h", "k", "l"), ("A",), ("int",), (None,), ([],), "g", {"g"}, ("",)]
        for fields in things() + odd:
            if fields != ():
                self.class_refused("fields", fields=fields)
        self.assertEqual(Library(ClassDef("a", fields=("g", "h", "k"))).fields_of("a"), ["g", "h", "k"])

    def test_double(self):
        self.class_refused("double", fields=("f",))
        self.class_refused("double", fields=("g", "f"), where=5)
        self.refused("d", "double", *of("a", d=("b", "c")), ClassDef("b", fields=("x",)), ClassDef("c", fields=("x",)))
        self.refused("d", "fields", ClassDef("d", fields=("x", "x")), ClassDef("a", ("b",), fields=("x",)),
                     ClassDef("b", fields=("x",)))

    def test_where(self):
        one = (("", "self.f", 1),)
        for where in things() + [(one,), [one], Cond(one + one), Cond(one, one + one), Cond((("", "f", 1),)),
                                 Cond((("x", "", 1),)), Cond((("self.g", "", 1),)), Cond(one, (("a.f", "", 1),)),
                                 Cond((("self", "", 1),)), Cond((("result", "", 1),))]:
            if where is not None and where != Cond():
                self.class_refused("where", where=where)
        for where in (Cond(), Cond(one), Cond(one, one), Cond((("self.f", "self.f", 1),)), Cond((("", "", -1),))):
            self.assertEqual(Library(ClassDef("a", fields=("f",), where=where)).where_of("a"), list(where.clauses))

    def test_methods(self):
        made = method("m", (), "int")
        odd = [[], [made], (made, made), made, (None,), ([],), ("m",), (made, "m"), (made, ClassDef("k")), {}, "m",
               (method("M", (), "int"),), (method("int", (), "int"),), (method(None, (), "int"),), (method([], (), "int"),),
               tuple(method(name, (), "int") for name in "wxyz")]
        for methods in things() + odd:
            if methods != ():
                self.class_refused("methods", methods=methods)
        self.assertEqual(Library(ClassDef("a", methods=odd[-1][:3])).methods_of("a"), ["w", "x", "y"])

    def test_params(self):
        odd = [[], [("x", "int")], (["x", "int"],), (("x",),), (("x", "int", 1),), ("x",), (("x", "zz"),), (("x", "Int"),),
               (("x", None),), (("x", []),), (("x", True),), (("X", "int"),), (("self", "int"),), (("result", "int"),),
               ((None, "int"),), (([], "int"),), (("x", "int"), ("x", "a")), (("", "int"),), {}, "x", (None,), ((),),
               (("w", "int"), ("x", "int"), ("y", "int"), ("z", "int"))]
        for params in things() + odd:
            if params != ():
                self.method_refused("params", params=params)
        most = (("w", "int"), ("x", "a"), ("a", "int"))
        self.assertEqual(Library(ClassDef("a", methods=(method("m", most, "int"),))).methods_of("a"), ["m"])

    def test_result(self):
        for result in things() + ["zz", "Int", "", [], {}, ("int",), ["int"], b"int"]:
            self.method_refused("result", result=result)
        for result in ("int", "a"):
            Library(ClassDef("a", methods=(method("m", (), result),)))

    def test_pre_and_post(self):
        both = ["x", "p.f", "self.f", "self.g"]
        for term in both:
            Library(*self.with_contract("int", Cond(((term, "", 1),)), Cond(((term, "", 1),))))
        for term in ["p", "p.g", "self", "self.h", "self.zz", "y", "x.f", "result", "result.f", "a.f", "f", "q.f"]:
            wrong = Cond(((term, "", 1),))
            self.method_refused("pre", pre=wrong)
            self.method_refused("pre", pre=Cond((("x", "", 1),), (("", "x", 1), ("", term, 1))))
            if term != "result":
                self.method_refused("post", post=wrong)
            self.method_refused("pre", pre=wrong, post=wrong)
            self.refused(("c", "m"), "pre", *self.with_contract("a", wrong, wrong))
        for thing in things() + ODD:
            if not isinstance(thing, Cond) and thing is not None:
                self.method_refused("pre", pre=thing)
                self.method_refused("post", post=thing)
        Library(*self.with_contract("int", Cond(), Cond((("result", "x", 1),))))
        Library(*self.with_contract("a", Cond(), Cond((("result.f", "x", 1),))))
        for result, term in [("int", "result.f"), ("a", "result"), ("a", "result.g")]:
            self.refused(("c", "m"), "post", *self.with_contract(result, Cond(), Cond(((term, "", 1),))))

    def with_contract(self, result, pre, post):
        made = Method("m", (("x", "int"), ("p", "a")), result, pre=pre, post=post, body=HALT)
        return [ClassDef("c", ("a",), fields=("g",), methods=(made,)), ClassDef("a", fields=("f",))]

    def test_inherited(self):
        first = method("m", (("x", "int"),), "int")
        for params, result in [((), "int"), ((("y", "int"),), "int"), ((("x", "a"),), "int"), ((("x", "int"),), "a"),
                               ((("x", "int"), ("y", "int")), "int")]:
            other = method("m", params, result)
            self.refused(("b", "m"), "inherited", ClassDef("b", ("a",), methods=(other,)), ClassDef("a", methods=(first,)))
            self.refused(("c", "m"), "inherited", ClassDef("c", ("b", "a")), ClassDef("b", methods=(other,)),
                         ClassDef("a", methods=(first,)))
            Library(ClassDef("b", methods=(other,)), ClassDef("a", methods=(first,)))
        same = Method("m", (("x", "int"),), "int", pre=Cond((("x", "", 1),)), body=BACK)
        Library(ClassDef("b", ("a",), methods=(same,)), ClassDef("a", methods=(first,)))

    def test_inherited_in_ascending_order(self):
        def four(result):
            return tuple(method(name, (), result) for name in ("z", "k", "m"))
        self.refused(("b", "k"), "inherited", ClassDef("b", ("a",), methods=four("a")), ClassDef("a", methods=four("int")))

    def test_first_word_first(self):
        # In each row the first one is told, although others are earlier by place.
        bad = {"params": None, "result": None, "pre": 1, "post": 1, "body": None}
        words = ["params", "result", "pre", "post"]
        for k, word in enumerate(words):
            later = {**{"params": (), "result": "int", "body": None}, **{key: bad[key] for key in words[k + 1:]}}
            here = {**{"params": (), "result": "int", "body": None}, word: bad[word]}
            rows = [Method(name, values.pop("params"), values.pop("result"), **values)
                    for name, values in [("n", later), ("m", here)]]
            self.refused(("b", "m"), word, ClassDef("b", methods=(rows[1],)), ClassDef("a", methods=(rows[0],)))
            self.refused(("a", "m"), word, ClassDef("a", methods=tuple(rows)))
        parts = {"bases": None, "fields": None, "where": 1, "methods": None}
        words = ["bases", "fields", "where", "methods"]
        for k, word in enumerate(words):
            later = ClassDef("a", **{key: parts[key] for key in words[k + 1:]})
            self.refused("b", word, ClassDef("b", **{word: parts[word]}), later)
        bodies = ClassDef("a", methods=(method("m", (), "int", None),))
        self.refused(("c", "m"), "inherited", bodies, ClassDef("c", ("a",), methods=(method("m", (), "a"),)))
        self.refused(("a", "m", ()), "form", bodies, ClassDef("c", ("a",), methods=(method("m", (), "int", None),)))

    def test_errors(self):
        for base in (BadLibrary, ContractError, ValueError):
            with self.assertRaises(base):
                Library(None)


if __name__ == "__main__":
    unittest.main()
