"""[0.3], [3.1]: Method and ClassDef."""

import inspect
import unittest

from contractheirs.classes import ClassDef, Method
from contractheirs.conditions import Cond
from tests.support import things

PARAMS = (("x", "int"), ("p", "a"))
PRE = Cond.between("x", 0, 9)
POST = Cond.equal("result", "x")
BODY = ("return", ("x", 0))
WHERE = Cond.between("self.f", 0, 9)

METHOD = {"name": "m", "params": PARAMS, "result": "int", "pre": PRE, "post": POST, "body": BODY}
CLASS = {"name": "c", "bases": ("a", "b"), "fields": ("f",), "where": WHERE, "methods": ()}


def method(**changed):
    values = {**METHOD, **changed}
    first = [values.pop(key) for key in ("name", "params", "result")]
    return Method(*first, **values)


def classdef(**changed):
    values = {**CLASS, **changed}
    first = [values.pop(key) for key in ("name", "bases")]
    return ClassDef(*first, **values)


class Methods(unittest.TestCase):

    def test_values(self):
        made = Method("m", PARAMS, "int", pre=PRE, post=POST, body=BODY)
        self.assertEqual(list(vars(made)), list(METHOD))
        for key, value in METHOD.items():
            self.assertIs(getattr(made, key), value)

    def test_defaults(self):
        for made in (Method("m", (), "int", body=BODY), Method("m", (), "int", pre=None, post=None, body=BODY)):
            self.assertIsInstance(made.pre, Cond)
            self.assertIsInstance(made.post, Cond)
            self.assertEqual((made.pre, made.post, made.body), (Cond(), Cond(), BODY))

    def test_none_elsewhere_stays(self):
        made = Method(None, None, None, body=None)
        self.assertEqual((made.name, made.params, made.result, made.body), (None, None, None, None))
        self.assertEqual((made.pre, made.post), (Cond(), Cond()))

    def test_one_is_none_and_the_other_is_not(self):
        made = Method("m", (), "int", pre=PRE, body=BODY)
        self.assertEqual((made.pre, made.post), (PRE, Cond()))
        made = Method("m", (), "int", post=POST, body=BODY)
        self.assertEqual((made.pre, made.post), (Cond(), POST))

    def test_made_of_anything(self):
        for thing in things() + [[], {}, [("x", "int")], (("x",),), ["halt"]]:
            for key in METHOD:
                if thing is None and key in ("pre", "post"):
                    continue
                self.assertIs(getattr(method(**{key: thing}), key), thing, key)

    def test_things_that_are_false_stay(self):
        for thing in (0, False, "", (), [], {}):
            made = method(pre=thing, post=thing)
            self.assertIs(made.pre, thing)
            self.assertIs(made.post, thing)

    def test_how_values_are_passed(self):
        with self.assertRaises(TypeError):
            Method("m", (), "int", Cond(), body=BODY)
        with self.assertRaises(TypeError):
            Method("m", (), "int")
        with self.assertRaises(TypeError):
            Method("m", (), body=BODY)
        spec = inspect.getfullargspec(Method.__init__)
        self.assertEqual(spec.args, ["self", "name", "params", "result"])
        self.assertEqual((spec.defaults, spec.kwonlyargs), (None, ["pre", "post", "body"]))
        self.assertEqual(spec.kwonlydefaults, {"pre": None, "post": None})

    def test_equal(self):
        self.assertTrue(method() == method())
        self.assertFalse(method() != method())
        self.assertTrue(method(pre=Cond(), post=None) == method(pre=None, post=Cond()))
        self.assertTrue(method(params=[["x", "int"]]) == method(params=[["x", "int"]]))
        self.assertTrue(method(body=("return", ("x", 0))) == method(body=BODY))

    def test_unequal_in_each_value(self):
        changes = {"name": "n", "params": PARAMS[:1], "result": "a", "pre": POST, "post": PRE, "body": ("halt",)}
        self.assertEqual(set(changes), set(METHOD))
        for key, value in changes.items():
            self.assertFalse(method() == method(**{key: value}), key)
            self.assertFalse(method(**{key: value}) == method(), key)
            self.assertTrue(method() != method(**{key: value}), key)
            self.assertTrue(method(**{key: value}) == method(**{key: value}), key)

    def test_equals_nothing_of_another_class(self):
        made = method()
        others = things() + [tuple(METHOD.values()), list(METHOD.values()), METHOD, "m", ClassDef("m"), [made], (made,)]
        for other in others:
            if not isinstance(other, Method):
                self.assertFalse(made == other)
                self.assertFalse(other == made)
                self.assertTrue(made != other)

    def test_methods_stand_in_the_class(self):
        self.assertLessEqual({"__init__", "__eq__"}, set(vars(Method)))
        self.assertEqual(Method.__module__, "contractheirs.classes")


class Classes(unittest.TestCase):

    def test_values(self):
        methods = (method(),)
        made = ClassDef("c", ("a", "b"), fields=("f",), where=WHERE, methods=methods)
        self.assertEqual(list(vars(made)), list(CLASS))
        self.assertEqual((made.name, made.bases, made.fields), ("c", ("a", "b"), ("f",)))
        self.assertIs(made.where, WHERE)
        self.assertIs(made.methods, methods)

    def test_defaults(self):
        for made in (ClassDef("c"), ClassDef("c", (), fields=(), where=None, methods=())):
            self.assertIsInstance(made.where, Cond)
            self.assertEqual((made.name, made.bases, made.fields, made.methods), ("c", (), (), ()))
            self.assertEqual(made.where, Cond())

    def test_none_elsewhere_stays(self):
        made = ClassDef(None, None, fields=None, methods=None)
        self.assertEqual((made.name, made.bases, made.fields, made.methods), (None, None, None, None))

    def test_made_of_anything(self):
        for thing in things() + [[], {}, ["a"], [method()], "abc"]:
            for key in CLASS:
                if thing is None and key == "where":
                    continue
                self.assertIs(getattr(classdef(**{key: thing}), key), thing, key)

    def test_things_that_are_false_stay(self):
        for thing in (0, False, "", (), [], {}):
            self.assertIs(classdef(where=thing).where, thing)

    def test_how_values_are_passed(self):
        with self.assertRaises(TypeError):
            ClassDef("c", (), ("f",))
        with self.assertRaises(TypeError):
            ClassDef()
        spec = inspect.getfullargspec(ClassDef.__init__)
        self.assertEqual((spec.args, spec.defaults), (["self", "name", "bases"], ((),)))
        self.assertEqual(spec.kwonlyargs, ["fields", "where", "methods"])
        self.assertEqual(spec.kwonlydefaults, {"fields": (), "where": None, "methods": ()})

    def test_equal(self):
        self.assertTrue(classdef() == classdef())
        self.assertFalse(classdef() != classdef())
        self.assertTrue(classdef(where=None) == classdef(where=Cond()))
        self.assertTrue(classdef(methods=(method(),)) == classdef(methods=(method(),)))

    def test_unequal_in_each_value(self):
        changes = {"name": "d", "bases": ("b", "a"), "fields": ("g",), "where": Cond(), "methods": (method(),)}
        self.assertEqual(set(changes), set(CLASS))
        for key, value in changes.items():
            self.assertFalse(classdef() == classdef(**{key: value}), key)
            self.assertFalse(classdef(**{key: value}) == classdef(), key)
            self.assertTrue(classdef() != classdef(**{key: value}), key)
            self.assertTrue(classdef(**{key: value}) == classdef(**{key: value}), key)
        self.assertFalse(classdef(methods=(method(),)) == classdef(methods=(method(body=("halt",)),)))
        self.assertFalse(classdef(bases=()) == classdef(bases=[]))

    def test_equals_nothing_of_another_class(self):
        made = classdef()
        for other in things() + [tuple(CLASS.values()), list(CLASS.values()), CLASS, "c", method(name="c"), [made]]:
            if not isinstance(other, ClassDef):
                self.assertFalse(made == other)
                self.assertFalse(other == made)
                self.assertTrue(made != other)

    def test_methods_stand_in_the_class(self):
        self.assertLessEqual({"__init__", "__eq__"}, set(vars(ClassDef)))
        self.assertEqual(ClassDef.__module__, "contractheirs.classes")


if __name__ == "__main__":
    unittest.main()
