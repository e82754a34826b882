"""[5.1], [5.2]: what is wrong with bodies, in methods and in clients."""

import unittest

from contractheirs.bodies import check_client
from contractheirs.errors import BadBody, BadLibrary, ContractError
from contractheirs.libraries import Library
from tests.rows import (
    ASK, BACK, HALT, ONE, attempt, call, classes, following, let, lets, method, new, told, when,
)
from tests.support import GREAT, things

ODD = [[], {}, [HALT], ["halt"], {1}, ((),), (HALT,), "halt", b"halt", ("Halt",), ("",), (b"halt",), (["halt"],),
       (None,), ({},), ("int", "", 1), ("ask",), ("next", ()), (True, 1)]
WRONG_TERMS = [None, True, 0, b"x", [], {}, ("x",), "A", "aB", "abcdefghi", "a.b.c", ".", "a.", ".a", "a b", "a1", "0:x"]
WRONG_NUMBERS = [None, True, False, "1", 1j, [], {}, (1,), b"1"]
WRONG_STRINGS = [None, True, 1, b"x", [], {}, ("x",), ["x"], ("x", 1)]


class Told(unittest.TestCase):

    def of_client(self, client):
        """What is said of a client, or None."""
        library = Library(*classes())
        try:
            self.assertIs(check_client(library, client), None)
        except BadBody as error:
            self.assertIs(type(error.at), tuple)
            self.assertTrue(all(type(one) is int for one in error.at))
            return (error.at, error.why)
        return None

    def client(self, client, *found):
        self.assertEqual(self.of_client(client), found or None, client)

    def inside(self, key, body, *found):
        self.assertEqual(told(key, body), found or None, (key, body))

    def both(self, body, *found):
        """A body of which the same is said in a method, and in a client."""
        self.client(body, *found)
        self.inside("t", body, *found)


class Sizes(Told):

    def test_statements(self):
        self.both(lets(39))
        self.both(lets(40), (), "size")
        self.both(lets(41), (), "size")
        self.both(lets(36, when(lets(1, HALT, stem="w"), HALT)))
        self.both(lets(36, when(lets(1, HALT, stem="w"), lets(1, stem="w"))), (), "size")
        nine = lets(9, stem="w")
        self.both(lets(19, attempt(nine, nine)))
        self.both(lets(20, attempt(nine, nine)), (), "size")
        self.both(lets(20, attempt(nine, lets(8, stem="w"))))

    def test_ifs(self):
        four = when(when(), when(when(), BACK))
        self.both(four)
        self.both(when(four), (), "size")
        self.both(when(BACK, four), (), "size")
        self.both(attempt(when(when()), when(when())))
        self.both(attempt(when(when()), when(BACK, when(when()))), (), "size")
        self.both(let("y", ASK, four))
        self.both(let("y", ASK, when(four)), (), "size")

    def test_tries(self):
        self.both(attempt(attempt(), attempt()))
        self.both(attempt(attempt(attempt())), (), "size")
        self.both(attempt(attempt(BACK, attempt())), (), "size")
        self.both(attempt(BACK, attempt(attempt())), (), "size")
        self.both(attempt(BACK, attempt(BACK, attempt())), (), "size")
        self.both(attempt(let("y", ASK, when(BACK, attempt(let("z", ASK, attempt()))))), (), "size")
        self.both(when(attempt(attempt()), attempt(attempt(), attempt())))

    def test_calls(self):
        go = call("o", "go")

        def calls(many, rest=BACK, stem="v"):
            return lets(many, rest, go, stem)

        def two():
            return calls(2, stem="w")

        def check(body, *found):
            self.both(let("o", new("lone"), body), *found)

        check(calls(4))
        check(calls(5), (), "size")
        check(when(calls(4), calls(4)))
        check(when(calls(5), BACK), (), "size")
        check(when(BACK, calls(5)), (), "size")
        check(calls(2, when(two(), two())))
        check(calls(3, when(BACK, two())), (), "size")
        check(calls(3, when(two(), BACK)), (), "size")
        check(attempt(two(), two()))
        check(attempt(calls(4), BACK))
        check(attempt(BACK, calls(4)))
        check(attempt(two(), calls(3)), (), "size")
        check(attempt(calls(3), two()), (), "size")
        check(calls(1, attempt(two(), two())), (), "size")
        check(when(attempt(two(), two()), calls(1, attempt(two(), calls(1, stem="w")))))
        check(attempt(when(two(), calls(1)), when(calls(1), two())))
        check(attempt(when(two(), calls(1)), when(calls(3), BACK)), (), "size")

    def test_nexts_are_calls(self):
        self.inside("m", lets(4, BACK, following(ONE)))
        self.inside("m", lets(5, BACK, following(ONE)), (), "size")
        mixed = let("a", following(ONE), lets(3, BACK, call("self", "mk")))
        self.inside("m", mixed)
        self.inside("m", let("b", following(ONE), mixed), (), "size")

    def test_other_lets_are_no_calls(self):
        self.both(lets(9, BACK, ("new", "lone", ())))
        self.both(lets(9, BACK, ("int", "", 1)))

    def test_size_goes_ahead_of_all_else(self):
        self.both(let("if", ("nothing",), lets(39)), (), "size")
        self.both(let("if", ("nothing",), lets(38)), (), "form")
        self.both(let(None, None, lets(39)), (), "size")
        self.both(when(lets(39), HALT, None), (), "size")
        self.both(when(when(when(when(when())), None), HALT, None), (), "size")
        self.both(attempt(None, attempt(None, attempt(None, None))), (), "size")

    def test_what_looks_like_a_call_counts(self):
        for expression in (("call",), ("next",), ("call", 1, 2, 3, 4, 5), ("next", []), ("call", [], {})):
            self.both(lets(5, BACK, expression), (), "size")
            self.both(lets(4, BACK, expression), (), "form")
        for expression in (["call"], "call", ("calls",), (), ("Call",), (["call"],), (b"call",), None):
            self.both(lets(5, BACK, expression), (), "form")

    def test_what_looks_like_a_statement_counts(self):
        # A part too many or too few makes a statement without parts.
        self.both(("let", "y", ASK, lets(40), 1), (), "form")
        self.both(["let", "y", ASK, lets(40)], (), "form")
        self.both(("let", "y", lets(40)), (), "form")
        self.both(("try", lets(40)), (), "form")
        self.both(("return", lets(40)), (), "form")
        self.both(("halt", lets(40)), (), "form")
        self.both((["let"], "y", ASK, lets(40)), (), "form")
        self.both(lets(39, None), (0,) * 39, "form")
        self.both(lets(40, None), (), "size")
        self.both(lets(40, []), (), "size")
        five = ("if", None, ("if", 1, 2, ("if", 1, 2, ("if", 1, 2, ("if", 1, 2, 3)))), HALT)
        self.both(five, (), "size")
        self.both(("if", None, ("if", 1, 2, ("if", 1, 2, ("if", 1, 2, ("if", 1, 2)))), HALT), (), "form")

    def test_parts_that_come_again_and_again(self):
        body = BACK
        for _ in range(50):
            body = when(body, body)
        self.both(body, (), "size")
        body = BACK
        for _ in range(50):
            body = attempt(body, body)
        self.both(body, (), "size")


class Forms(Told):

    def test_no_statement(self):
        for thing in things() + ODD:
            self.both(thing, (), "form")
            self.both(let("y", ASK, thing), (0,), "form")
            self.both(when(HALT, thing), (1,), "form")
            self.both(when(thing, thing), (0,), "form")
            self.both(attempt(thing), (0,), "form")
            self.both(attempt(HALT, thing), (1,), "form")

    def test_number_of_items(self):
        for good in (BACK, let("y", ASK), when(), attempt(), HALT):
            self.both(good)
            self.both(good + (1,), (), "form")
            self.both(good + (HALT,), (), "form")
            self.both(good[:-1], (), "form")
            self.both(list(good), (), "form")
            self.both((good[0].upper(),) + good[1:], (), "form")

    def test_values_that_are_returned(self):
        for value in [(), ("",), ("", 1, 2), ["", 1], None, 1, True, b"x", [], {}, (1, ""), ("", "")]:
            self.both(("return", value), (), "form")
        for term in WRONG_TERMS:
            self.both(("return", (term, 1)), (), "form")
        for number in WRONG_NUMBERS:
            self.both(("return", ("", number)), (), "form")
        for number in (0, -1, GREAT, -GREAT):
            self.both(("return", ("", number)))

    def test_lets(self):
        for name in WRONG_STRINGS:
            self.both(let(name, ASK), (), "form")
        for expression in things() + ODD:
            if expression != ASK and expression != ("int", "", 1) and expression != ("next", ()):
                self.both(let("y", expression), (), "form")

    def test_number_of_items_of_expressions(self):
        for good in (("int", "", 1), ASK, new("lone"), ("call", "y", "go", ()), following(), ("as", "y", "top")):
            for bad in (good + (1,), good + ((),), good[:-1], list(good), (good[0] + "s",) + good[1:]):
                self.both(let("z", bad), (), "form")

    def test_ints(self):
        for term in WRONG_TERMS:
            self.both(let("y", ("int", term, 1)), (), "form")
        for number in WRONG_NUMBERS:
            self.both(let("y", ("int", "", number)), (), "form")

    def test_strings(self):
        for thing in WRONG_STRINGS:
            for expression in (("new", thing, ()), ("call", thing, "go", ()), ("call", "o", thing, ()),
                               ("as", thing, "top"), ("as", "o", thing)):
                self.both(let("o", new("lone"), let("y", expression)), (0,), "form")

    def test_values(self):
        wrong = [None, 1, [], ["", 1], (), ("",), ("", 1, 1), ("", True), (1, 1), ("A", 1), {}, b"x"]
        for thing in wrong + ["x", ""]:
            self.both(let("y", new("lone", thing)), (), "form")
            self.both(let("y", new("top", ONE, thing)), (), "form")
        for thing in wrong:
            self.both(let("y", call("x", "go", ONE, thing)), (), "form")
            self.both(let("y", following(thing, ONE)), (), "form")
        for things_ in (None, [], [ONE], {}, 1, "", "x", True):
            self.both(let("y", ("new", "lone", things_)), (), "form")
            self.both(let("y", ("call", "x", "go", things_)), (), "form")
            self.both(let("y", ("next", things_)), (), "form")

    def test_literals(self):
        for thing in things() + [(), ("", ""), ("", "", 1, 1), ["", "", 1], (("", "", 1),)]:
            self.both(when(literal=thing), (), "form")
        for term in WRONG_TERMS:
            self.both(when(literal=(term, "", 1)), (), "form")
            self.both(when(literal=("", term, 1)), (), "form")
        for number in WRONG_NUMBERS:
            self.both(when(literal=("", "", number)), (), "form")


class Names(Told):

    def test_no_names(self):
        reserved = """as ask body call class else field halt if int let method next none post pre result return self
        try where zero""".split()
        self.assertEqual(len(reserved), 22)
        for name in reserved + ["", "A", "abcdefghi", "y.z", "y1", "y_", " y", "y ", "y\n", "_"]:
            self.both(let(name, ASK), (), "name")

    def test_names(self):
        for name in ["y", "z", "abcdefgh", "selfs", "ints", "a", "lone", "left", "top", "go", "true", "zeros"]:
            self.both(let(name, ASK, ("return", (name, 0))))

    def test_a_variable_already(self):
        for name in ("x", "p", "q"):
            self.inside("t", let(name, ASK), (), "name")
            self.inside("go", let(name, ASK))
        self.both(let("y", ASK, let("y", ASK)), (0,), "name")
        self.both(let("y", ASK, let("z", ASK, when(HALT, let("y", ASK)))), (0, 0, 1), "name")
        self.both(let("y", new("lone"), attempt(HALT, let("y", ASK))), (0, 1), "name")

    def test_a_variable_of_another_part(self):
        self.both(when(let("y", ASK), let("y", ASK)))
        self.both(attempt(let("y", ASK), let("y", ASK)))
        self.both(attempt(let("y", new("lone")), let("y", ASK, ("return", ("y", 0)))))


class Terms(Told):

    def test_in_all_places(self):
        self.both(("return", ("nix", 0)), (), "term")
        self.both(let("y", ("int", "nix", 0)), (), "term")
        self.both(let("y", new("top", ("nix", 0))), (), "term")
        self.both(let("y", new("top", ONE, ("nix", 0))), (), "term")
        self.both(when(literal=("nix", "", 0)), (), "term")
        self.both(when(literal=("", "nix", 0)), (), "term")
        self.inside("t", let("y", call("self", "m", ("nix", 0))), (), "term")
        self.inside("m", let("y", following(("nix", 0))), (), "term")
        self.client(let("o", new("top", ONE), let("y", call("o", "m", ("nix", 0)))), (0,), "term")

    def test_what_is_known_in_a_method(self):
        known = ["", "x", "self.f", "self.g", "p.f", "p.g", "p.h", "q.f"]
        unknown = ["self", "self.h", "p", "q", "q.g", "x.f", "f", "g", "top.f", "left.g", "result", "result.f", "p.zz",
                   "self.zz", "y"]
        for term in known + unknown:
            found = [] if term in known else [(), "term"]
            self.inside("t", ("return", (term, 1)), *found)
            self.inside("t", when(literal=(term, "", 1)), *found)
            self.inside("t", when(literal=("x", term, 1)), *found)
            self.inside("t", let("y", ("int", term, 1)), *found)
            self.inside("t", let("y", new("top", (term, 1))), *found)
            self.inside("t", let("y", call("self", "m", (term, 1))), *found)

    def test_nothing_is_known_in_a_client(self):
        for term in ["x", "self", "self.f", "self.g", "p.f", "lone.f"]:
            self.client(("return", (term, 1)), (), "term")

    def test_variables(self):
        self.both(let("y", ("int", "y", 1)), (), "term")
        self.both(let("y", ASK, ("return", ("y", 1))))
        self.both(let("y", ("int", "", 1), let("z", ("int", "y", 1), ("return", ("z", 1)))))
        self.both(let("y", ASK, ("return", ("y.f", 1))), (0,), "term")
        self.both(when(let("y", ASK), ("return", ("y", 1))), (1,), "term")
        self.both(attempt(let("y", ASK), ("return", ("y", 1))), (1,), "term")

    def test_fields_of_the_known_class(self):
        made = new("low", ONE, ONE, ONE)
        for term in ["o.f", "o.g", "o.h", "s.f", "s.g", "s.h"]:
            self.both(let("o", made, let("s", ("as", "o", "top"), ("return", (term, 1)))))
        for term in ["o", "s", "s.k", "o.k"]:
            self.both(let("o", made, let("s", ("as", "o", "top"), ("return", (term, 1)))), (0, 0), "term")
        # Also through several: the known class stays that of the new.
        twice = let("s", ("as", "o", "left"), let("w", ("as", "s", "top"), ("return", ("w.h", 1))))
        self.both(let("o", made, twice))
        self.inside("t", let("s", ("as", "self", "top"), ("return", ("s.g", 1))))
        self.inside("t", let("s", ("as", "p", "top"), ("return", ("s.h", 1))))

    def test_fields_of_results(self):
        mk = let("y", call("self", "mk"), ("return", ("y.g", 1)))
        self.inside("t", mk)
        self.inside("t", let("y", call("self", "mk"), ("return", ("y.h", 1))), (0,), "term")
        self.inside("t", let("y", call("self", "mk"), ("return", ("y", 1))), (0,), "term")
        self.inside("t", let("y", call("self", "m", ONE), ("return", ("y", 1))))
        self.inside("m", let("y", following(ONE), ("return", ("y", 1))))
        self.client(let("o", new("low", ONE, ONE, ONE), let("y", call("o", "mk"), ("return", ("y.g", 1)))))
        self.client(let("o", new("low", ONE, ONE, ONE), let("y", call("o", "mk"), ("return", ("y.h", 1)))), (0, 0), "term")


class Objects(Told):

    def test_in_a_client(self):
        for name in ("self", "x", "", "A b", "lone", "o.f"):
            self.client(("return", name), (), "object")
            self.client(let("y", call(name, "go")), (), "object")
            self.client(let("y", ("as", name, "top")), (), "object")
            self.client(let("o", new("lone"), let("y", call("o", "go", name))), (0,), "object")
            self.client(let("y", following(name)), (), "object")

    def test_in_a_method(self):
        for name in ("x", "y", "", "left", "self.f", "result"):
            self.inside("u", ("return", name), (), "object")
            self.inside("u", let("y", call(name, "m", ONE)), (), "object")
            self.inside("u", let("y", ("as", name, "top")), (), "object")
            self.inside("u", let("y", call("self", "u", ONE, name, "q")), (), "object")
            self.inside("m", let("y", following(name)), (), "object")
        for name in ("self", "p"):
            self.inside("u", ("return", name))
            self.inside("u", let("y", call(name, "m", ONE), HALT))
            self.inside("u", let("y", ("as", name, "top"), HALT))
            self.inside("u", let("y", call("self", "u", ONE, "p", name), HALT))

    def test_integers_are_none(self):
        self.both(let("y", ASK, ("return", "y")), (0,), "object")
        self.both(let("y", ASK, let("z", call("y", "go"))), (0,), "object")
        self.both(let("y", ASK, let("z", ("as", "y", "top"))), (0,), "object")

    def test_not_within_their_own_let_or_another_part(self):
        self.both(let("y", ("as", "y", "top")), (), "object")
        self.both(when(let("y", new("lone")), let("z", call("y", "go"))), (1,), "object")
        self.both(attempt(let("y", new("lone")), let("z", call("y", "go"))), (1,), "object")


class Asked(Told):

    def test_class_of_new(self):
        for name in ("zz", "", "int", "A", "m", "self", "x"):
            self.both(let("y", new(name)), (), "class")
            self.both(let("y", new(name, ONE)), (), "class")

    def test_class_of_as(self):
        made = ("new", "low", (ONE, ONE, ONE))
        for name in ("low", "left", "right", "top"):
            self.both(let("o", made, let("y", ("as", "o", name))))
        for name in ("lower", "lone", "zz", "", "int", "o"):
            self.both(let("o", made, let("y", ("as", "o", name))), (0,), "class")
        # The view counts, not the known class.
        seen = let("s", ("as", "o", "left"), let("y", ("as", "s", "top")))
        self.both(let("o", made, seen))
        for name in ("low", "right"):
            self.both(let("o", made, let("s", ("as", "o", "left"), let("y", ("as", "s", name)))), (0, 0), "class")
        self.inside("t", let("y", ("as", "self", "left")))
        self.inside("t", let("y", ("as", "self", "low")), (), "class")
        self.inside("t", let("y", ("as", "q", "left")), (), "class")

    def test_method(self):
        made = ("new", "low", (ONE, ONE, ONE))
        for name in ("m", "mk", "t", "u", "w"):
            arguments = {"m": (ONE,), "t": (ONE, "o", "o"), "u": (ONE, "o", "o")}.get(name, ())
            self.client(let("o", made, let("y", ("call", "o", name, arguments))))
        for name in ("go", "take", "zz", "", "f", "low"):
            self.client(let("o", made, let("y", call("o", name))), (0,), "method")
            self.client(let("o", made, let("y", call("o", name, ONE, ONE))), (0,), "method")
        # The view counts, not the known class.
        self.both(let("o", made, let("s", ("as", "o", "left"), let("y", call("s", "w")))), (0, 0), "method")
        self.both(let("o", made, let("s", ("as", "o", "top"), let("y", call("s", "t")))), (0, 0), "method")
        self.inside("t", let("y", call("self", "w")), (), "method")
        self.inside("t", let("y", call("p", "w")))
        self.inside("t", let("y", call("q", "t")), (), "method")

    def test_next(self):
        self.client(let("y", following()), (), "next")
        self.client(let("y", following(ONE)), (), "next")
        self.inside("m", let("y", following(ONE)))
        self.inside("lower", let("y", following(ONE)))
        for key in ("top", "t", "u", "w", "take", "go"):
            self.inside(key, let("y", following()), (), "next")
            self.inside(key, let("y", following(ONE)), (), "next")

    def test_number_of_arguments(self):
        for many in range(5):
            found = [] if many == 3 else [(), "arguments"]
            self.both(let("o", ("new", "low", (ONE,) * many)), *found)
            self.both(let("o", ("new", "lone", (ONE,) * many)), *([] if many == 0 else [(), "arguments"]))
            found = [] if many == 1 else [(), "arguments"]
            self.inside("t", let("o", ("call", "self", "m", (ONE,) * many)), *found)
            self.inside("m", let("o", ("next", (ONE,) * many)), *found)
            self.inside("m", let("o", ("call", "self", "mk", (ONE,) * many)), *([] if many == 0 else [(), "arguments"]))

    def test_kinds_of_arguments(self):
        self.inside("t", let("y", call("self", "t", ONE, "p", "q")))
        self.inside("t", let("y", call("self", "t", ("x", 2), "p", "self")))
        self.inside("t", let("y", call("self", "t", ONE, "p", "p")))
        for arguments in [("self", "p", "q"), (ONE, ONE, "q"), (ONE, "p", ONE), (ONE, "q", "p"), (ONE, "self", "q"),
                          ("p", "p", "p"), (ONE, ONE, ONE), ("p", ONE, "q"), (ONE, "p"), (ONE, "p", "q", "q")]:
            self.inside("t", let("y", call("self", "t", *arguments)), (), "arguments")
        self.inside("m", let("y", following("self")), (), "arguments")

    def test_the_view_of_an_argument_counts(self):
        made = ("new", "lower", (ONE, ONE, ONE))
        for view in ("lower", "low", "left"):
            given = let("s", ("as", "o", view), let("y", call("l", "take", "s", ONE)))
            self.both(let("l", new("lone"), let("o", made, given)))
        for view in ("right", "top"):
            given = let("s", ("as", "o", view), let("y", call("l", "take", "s", ONE)))
            self.both(let("l", new("lone"), let("o", made, given)), (0, 0, 0), "arguments")

    def test_results_have_the_view_of_their_class(self):
        self.both(let("l", new("lone"), let("o", new("left", ONE, ONE), let("r", call("l", "take", "o", ONE), let(
            "y", ("as", "r", "right"), let("z", call("r", "w")))))))
        self.both(let("l", new("lone"), let("o", new("left", ONE, ONE), let("r", call("l", "take", "o", ONE), let(
            "y", ("as", "r", "lower"))))), (0, 0, 0), "class")

    def test_next_with_objects(self):
        library = classes()
        base = library[0]
        params = (("p", "left"), ("n", "int"))
        over = [method("k", params, "left")]
        for arguments, found in [(("p", ONE), None), (("self", ONE), None), (("s", ONE), "arguments"),
                                 ((ONE, ONE), "arguments"), (("p", "p"), "arguments"), (("p",), "arguments")]:
            body = let("s", ("as", "self", "top"), let("y", ("next", arguments), ("return", "y")))
            under = type(base)("under", ("over",), methods=(method("k", params, "left", body),))
            above = type(base)("over", ("left",), methods=tuple(over))
            if found is None:
                self.assertIn("under", Library(*library, above, under))
            else:
                with self.assertRaises(BadLibrary) as caught:
                    Library(*library, above, under)
                self.assertEqual((caught.exception.at, caught.exception.why), (("under", "k", (0,)), found))

    def test_own(self):
        for name in ("left", "low"):
            values = (ONE,) * {"left": 2, "low": 3}[name]
            own = let("o", ("new", name, values), let("y", call("o", "m", ONE)))
            self.inside("m", own, (0,), "own")
            # It may call another method of it, another method may call it, and so may a client.
            self.inside("m", let("o", ("new", name, values), let("y", call("o", "mk"))))
            self.inside("t", own)
            self.client(own)

    def test_own_seen_by_as(self):
        made = new("low", ONE, ONE, ONE)
        for view in ("low", "left", "right", "top"):
            once = let("s", ("as", "o", view), let("y", call("s", "m", ONE)))
            self.inside("m", let("o", made, once), (0, 0), "own")
        twice = let("s", ("as", "o", "left"), let("r", ("as", "s", "top"), let("y", call("r", "m", ONE))))
        self.inside("m", let("o", made, twice), (0, 0, 0), "own")

    def test_own_goes_by_the_writer_for_the_known_class(self):
        made = let("o", new("lower", ONE, ONE, ONE), let("s", ("as", "o", "left"), let("y", call("s", "m", ONE))))
        self.inside("m", made)
        self.inside("lower", made, (0, 0), "own")
        self.inside("m", let("o", new("top", ONE), let("y", call("o", "m", ONE))))
        self.inside("top", let("o", new("left", ONE, ONE), let("s", ("as", "o", "top"), let("y", call("s", "m", ONE)))))
        self.inside("top", let("o", new("top", ONE), let("y", call("o", "m", ONE))), (0,), "own")

    def test_own_of_objects_that_are_not_new(self):
        self.inside("m", let("y", call("self", "m", ONE)))
        self.inside("m", let("s", ("as", "self", "top"), let("y", call("s", "m", ONE))))
        self.inside("m", let("o", call("self", "mk"), let("y", call("o", "m", ONE))))
        self.inside("u", let("y", call("p", "u", ONE, "p", "q"), HALT))
        self.inside("u", let("y", call("self", "u", ONE, "p", "q"), let("z", call("y", "u", ONE, "p", "q"), HALT)))


class Values(Told):

    def test_integers(self):
        for body in (BACK, ("return", ("", -3)), HALT):
            self.both(body)
            self.inside("m", body)
        self.inside("t", ("return", "self"), (), "value")
        self.inside("t", ("return", "p"), (), "value")
        self.both(let("o", new("lone"), ("return", "o")), (0,), "value")

    def test_objects(self):
        self.inside("u", BACK, (), "value")
        self.inside("u", ("return", ("x", 0)), (), "value")
        self.inside("u", ("return", "self"))
        self.inside("u", ("return", "p"))
        self.inside("u", ("return", "q"), (), "value")
        self.inside("u", HALT)
        made = ("new", "low", (ONE, ONE, ONE))
        for view in ("low", "left"):
            self.inside("u", let("o", made, let("s", ("as", "o", view), ("return", "s"))))
        for view in ("right", "top"):
            self.inside("u", let("o", made, let("s", ("as", "o", view), ("return", "s"))), (0, 0), "value")
        self.inside("take", ("return", "a"), (), "value")
        self.inside("take", let("o", made, ("return", "o")))


class Order(Told):

    def test_words_at_one_place(self):
        # In each row the word, and something that is wrong with the words behind it, too.
        self.inside("m", let("if", ("int", "nix", None)), (), "form")
        self.inside("m", let("if", call("nix", "zz", ("nix", 0), "nix")), (), "name")
        self.inside("m", let("x", new("zz", ("nix", 0))), (), "name")
        self.inside("m", let("y", call("nix", "zz", ("nix", 0), "nix")), (), "term")
        self.inside("m", let("y", new("zz", ("nix", 0))), (), "term")
        self.inside("t", let("y", following(("nix", 0), "nix")), (), "term")
        self.inside("t", let("y", call("nix", "zz", "nix")), (), "object")
        self.inside("t", let("y", call("self", "zz", "nix")), (), "object")
        self.inside("t", let("y", ("as", "nix", "zz")), (), "object")
        self.inside("t", let("y", following("nix")), (), "object")
        self.inside("t", let("y", new("zz", ONE)), (), "class")
        self.inside("t", let("y", call("self", "zz", ONE, "self")), (), "method")
        self.inside("t", let("y", following("self", "self", "self", "self")), (), "next")
        own = let("o", new("low", ONE, ONE, ONE), let("y", call("o", "m", "o")))
        self.inside("m", own, (0,), "arguments")
        self.inside("u", ("return", ("nix", 0)), (), "term")
        self.inside("t", ("return", "nix"), (), "object")
        self.client(let("y", following(("nix", 0), "self")), (), "term")
        self.client(let("y", following("self")), (), "object")

    def test_places(self):
        wrong = ("return", ("nix", 0))
        self.both(when(wrong, wrong), (0,), "term")
        self.both(when(BACK, wrong), (1,), "term")
        self.both(when(wrong, None), (0,), "term")
        self.both(attempt(wrong, None), (0,), "term")
        self.both(attempt(let("y", ASK, wrong), None), (0, 0), "term")
        self.both(when(None, None, ("nix", "", 0)), (), "term")
        self.both(let("y", new("zz"), None), (), "class")
        self.both(let("y", ASK, when(attempt(HALT, let("z", ASK, when(HALT, wrong))), None)), (0, 0, 1, 0, 1), "term")
        self.both(let("y", ASK, when(attempt(HALT, let("z", ASK, when(HALT, HALT))), None)), (0, 1), "form")

    def test_which_body_is_named(self):
        wrong = {"u": None, "m": BACK, "t": BACK, "w": None, "take": None, "top": None}
        for keys, at in [(("u", "w", "take", "top"), ("left", "u", ())), (("w", "take", "top"), ("lone", "take", ())),
                         (("w", "top"), ("low", "w", ())), (("top",), ("top", "m", ()))]:
            with self.assertRaises(BadLibrary) as caught:
                Library(*classes(**{key: wrong[key] for key in keys}))
            self.assertEqual((caught.exception.at, caught.exception.why), (at, "form"))
        with self.assertRaises(BadLibrary) as caught:
            Library(*classes(t=("return", "x"), u=None))
        self.assertEqual((caught.exception.at, caught.exception.why), (("left", "t", ()), "object"))


class Clients(Told):

    def test_returns_none(self):
        self.assertIs(check_client(Library(), BACK), None)
        self.assertIs(check_client(Library(), HALT), None)

    def test_errors(self):
        for base in (BadBody, ContractError, ValueError):
            with self.assertRaises(base):
                check_client(Library(), None)

    def test_goes_by_its_library(self):
        body = let("o", new("lone"), let("y", call("o", "go")))
        self.client(body)
        with self.assertRaises(BadBody) as caught:
            check_client(Library(), body)
        self.assertEqual((caught.exception.at, caught.exception.why), ((), "class"))

    def test_where_it_stands(self):
        self.assertEqual(check_client.__module__, "contractheirs.bodies")

    def test_of_the_document(self):
        body = ("let", "v", ("ask",), ("if", ("v", "", 4), ("halt",), ("return", ("v", 2))))
        self.assertIs(check_client(Library(), body), None)


if __name__ == "__main__":
    unittest.main()
