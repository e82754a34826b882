"""[11.1], [11.2]: shown and read."""

import random
import re
import unittest

from contractheirs.classes import ClassDef, Method
from contractheirs.conditions import Cond
from contractheirs.errors import BadLibrary, BadText
from contractheirs.libraries import Library
from contractheirs.texts import read, shown
from tests import randoms
from tests.rows import ASK, BACK, HALT, NEVER, X, attempt, call, following, least, let, lets, most, new, when, writing
from tests.support import GREAT, things

# Each kind of row, as the document writes it.
ALL = """class c: b a
  field f
  field g
  where zero <= self.f + -3
  where self.f <= self.g + 0
  method m(x: int, p: a): int
    pre x <= zero + 7
    pre x <= p.h + 0 or self.f <= x + -2
    post result <= x + 1
    post x <= result + 12 or zero <= zero + 0
    body
      let v = int x + 3
      let y = ask
      let o = new b(v + 1, zero + -2)
      let t = as o a
      let z = call t.k(o.h + 0, t, self)
      if x <= zero + 4
        let n = next(v + 0, p)
        return n + 1
      else
        try
          let zz = call self.e()
          halt
        else
          let w = as self a
          return z + 0
  method e(): int
    body
      halt
class a
  field h
  method m(x: int, p: a): int
    body
      return x + 0
  method k(x: int, q: a, r: a): int
    body
      try
        return zero + 5
      else
        if zero <= zero + 0
          halt
        else
          halt
class b: a
  field i
  method made(): b
    body
      let o = new b(zero + 0, zero + 0)
      return o
  method its(): b
    body
      return self"""


def all_classes():
    second = let("zz", call("self", "e"), HALT)
    third = let("w", ("as", "self", "a"), ("return", ("z", 0)))
    body = let("v", ("int", "x", 3), let("y", ASK, let("o", new("b", ("v", 1), ("", -2)), let("t", ("as", "o", "a"), let(
        "z", call("t", "k", ("o.h", 0), "t", "self"), when(
            let("n", following(("v", 0), "p"), ("return", ("n", 1))), attempt(second, third), ("x", "", 4)))))))
    m = Method("m", X + (("p", "a"),), "int", pre=Cond(most("x", 7), (("x", "p.h", 0), ("self.f", "x", -2))),
               post=Cond((("result", "x", 1),), (("x", "result", 12), ("", "", 0))), body=body)
    inner = when(HALT, HALT, ("", "", 0))
    return (
        ClassDef("c", ("b", "a"), fields=("f", "g"), where=Cond(least("self.f", 3), (("self.f", "self.g", 0),)), methods=(
            m, Method("e", (), "int", body=HALT))),
        ClassDef("a", fields=("h",), methods=(
            Method("m", X + (("p", "a"),), "int", body=("return", ("x", 0))),
            Method("k", X + (("q", "a"), ("r", "a")), "int", body=attempt(("return", ("", 5)), inner)))),
        ClassDef("b", ("a",), fields=("i",), methods=(
            Method("made", (), "b", body=let("o", new("b", ("", 0), ("", 0)), ("return", "o"))),
            Method("its", (), "b", body=("return", "self")))),
    )


class Texts(unittest.TestCase):

    def both(self, text, *classes):
        """A text and the classes of its library."""
        self.assertEqual(shown(Library(*classes)), text)
        found = read(text)
        self.assertIs(type(found), Library)
        self.assertEqual(found.classes, classes)

    def test_no_classes(self):
        self.both("")

    def test_the_example(self):
        self.both("class a\n  field f\n  where zero <= self.f + 0", ClassDef("a", fields=("f",), where=Cond((("", "self.f", 0),))))

    def test_all_rows(self):
        self.both(ALL, *all_classes())

    def test_the_order_of_the_arguments(self):
        self.both("class b: d\nclass d\nclass a", ClassDef("b", ("d",)), ClassDef("d"), ClassDef("a"))

    def test_words(self):
        # "or" is a name like others, and so are those of forms that are no names there.
        self.both("class or\n  field or\n  method or(or: int, x: or): int\n    pre or <= or + 1 or or <= x.or + 2\n"
                  "    post result <= or + 0\n    body\n      let y = int or + 3\n      return or + 4",
                  ClassDef("or", fields=("or",), methods=(Method(
                      "or", (("or", "int"), ("x", "or")), "int", pre=Cond((("or", "or", 1), ("or", "x.or", 2))),
                      post=Cond((("result", "or", 0),)), body=let("y", ("int", "or", 3), ("return", ("or", 4)))),)))

    def test_numbers(self):
        for number in (0, 1, -1, 10, -10, 99, GREAT, -GREAT):
            self.both(f"class a\n  where zero <= zero + {number}", ClassDef("a", where=Cond((("", "", number),))))

    def test_random(self):
        many = 0
        for seed in range(150):
            try:
                library = randoms.library(random.Random(seed), most=7, dense=seed % 2 == 0)
            except BadLibrary:
                continue
            text = shown(library)
            self.assertEqual(read(text).classes, library.classes)
            self.assertEqual(shown(read(text)), text)
            many += len(text.split("\n"))
        self.assertGreater(many, 4000)

    def test_changed(self):
        library = Library(ClassDef("b"), ClassDef("a")).changed(ClassDef("b", fields=("f",))).changed(ClassDef("c"))
        self.assertEqual(shown(library), "class b\n  field f\nclass a\nclass c")


def refused_row(text):
    """The row that BadText names, None if the text can be read or the library is refused."""
    try:
        read(text)
    except BadText as error:
        return error.row
    except BadLibrary:
        pass
    return None


class Refused(unittest.TestCase):

    def setUp(self):
        self.rows = ALL.split("\n")

    def bad(self, row, text):
        with self.assertRaises(BadText) as caught:
            read(text)
        self.assertEqual(caught.exception.row, row, text)

    def test_no_string(self):
        for thing in things() + [b"class a", ["class a"], {}, ("class a",), bytearray(b"")]:
            if not isinstance(thing, str):
                self.bad(-1, thing)

    def test_other_strings(self):
        for text in [thing for thing in things() if isinstance(thing, str)] + [" ", "\n", "\nclass a", "class", "Class a", "class a "]:
            if text != "":
                self.bad(0, text)

    def test_a_line_feed_at_the_end(self):
        for text in ["class a", ALL, "class a\n  field f", "class a\n  method m(): int\n    body\n      halt"]:
            self.assertIs(refused_row(text), None)
            self.bad(text.count("\n") + 1, text + "\n")
            self.bad(text.count("\n") + 1, text + "\n\n")

    def test_cut_short(self):
        # Some rows may be the last one: a class may end behind them.
        may_end = 0
        for many in range(len(self.rows) + 1):
            text = "\n".join(self.rows[:many])
            last = self.rows[many - 1] if many else ""
            at = len(last) - len(last.lstrip())
            ends = at <= 2 and not last.startswith("  method") or many == len(self.rows)
            if many and not ends:
                rest = self.rows[many] if many < len(self.rows) else ""
                ends = rest.startswith("class") or rest.startswith("  method")
            if ends:
                self.assertIs(refused_row(text), None)
                may_end += 1
            else:
                self.bad(many, text)
        self.assertEqual(may_end, 16)

    def test_each_row_is_spoilt_by_its_level(self):
        for at, row in enumerate(self.rows):
            for blanks in (-2, -1, 1, 2, 3):
                depth = len(row) - len(row.lstrip()) + blanks
                if depth >= 0:
                    other = " " * depth + row.lstrip()
                    self.bad(at, "\n".join(self.rows[:at] + [other] + self.rows[at + 1:]))

    def test_only_blanks_indent(self):
        for at, row in enumerate(self.rows):
            depth = len(row) - len(row.lstrip())
            if depth:
                for sign in ["\t", "x", "-", "\r"]:
                    for other in [sign * depth, sign + " " * (depth - 1), " " * (depth - 1) + sign]:
                        self.bad(at, "\n".join(self.rows[:at] + [other + row.lstrip()] + self.rows[at + 1:]))

    def test_each_row_is_spoilt_by_its_form(self):
        for at, row in enumerate(self.rows):
            others = [row + " ", row + " X", row + "\r", row + "\t", row[:-1] + "%", row.upper(), row.replace("  ", "\t") + "  ",
                      row + ":", row + ";", row + "  # why", row.lstrip() + "!", "", "    ", row.lstrip()[:2] + " " + row, row * 2]
            if " " in row.strip():
                head, _, tail = row.rpartition(" ")
                others += [head + "  " + tail, head + "\t" + tail, head + tail if "class" not in head else head + " " + tail + " "]
            for other in others:
                self.bad(at, "\n".join(self.rows[:at] + [other] + self.rows[at + 1:]))

    def test_rows_at_other_places(self):
        def bad(row, *rows):
            self.bad(row, "\n".join(rows))
        method = ["  method m(): int", "    body", "      halt"]
        bad(1, "class a", "class")
        bad(0, "  field f")
        bad(0, "field f")
        bad(2, "class a", "  where zero <= zero + 0", "  field f")
        bad(4, "class a", *method, "  field f")
        bad(4, "class a", *method, "  where zero <= zero + 0")
        bad(4, "class a", *method, "      halt")
        bad(4, "class a", *method, "      return zero + 0")
        bad(4, "class a", *method, "    body")
        bad(4, "class a", *method, "      else")
        bad(1, "class a", "    pre zero <= zero + 0")
        bad(1, "class a", "    body")
        bad(2, "class a", "  method m(): int", "      halt")
        bad(2, "class a", "  method m(): int", "  method n(): int")
        bad(2, "class a", "  method m(): int", "class b")
        bad(3, "class a", "  method m(): int", "    post zero <= zero + 0", "    pre zero <= zero + 0")
        bad(3, "class a", "  method m(): int", "    body", "    pre zero <= zero + 0")
        bad(3, "class a", "  method m(): int", "    body", "    body")
        bad(3, "class a", "  method m(): int", "    body", "  method n(): int")
        start = ["class a", "  method m(): int", "    body"]
        bad(4, *start, "      let x = ask")
        bad(4, *start, "      let x = ask", "        halt")
        bad(4, *start, "      let x = ask", "      else")
        bad(4, *start, "      try", "      halt")
        bad(5, *start, "      try", "        halt")
        bad(5, *start, "      try", "        halt", "      halt")
        bad(5, *start, "      try", "        halt", "        else")
        bad(6, *start, "      try", "        halt", "      else")
        bad(6, *start, "      try", "        halt", "      else", "      halt")
        bad(7, *start, "      try", "        halt", "      else", "        halt", "      else")
        bad(7, *start, "      try", "        halt", "      else", "        halt", "      halt")
        bad(4, *start, "      try", "      else", "        halt")
        bad(3, *start, "      else")

    def test_names(self):
        reserved = """as ask body call class else field halt if int let method next none post pre result return self try where
        zero""".split()
        forms = [
            "class {}", "class a: {}", "class a: b {}", "class a\n  field {}", "class a\n  method {}(): int", "class a\n  method m(): {}",
            "class a\n  method m({}: int): int", "class a\n  method m(x: int, {}: a): int", "class a\n  method m(x: {}): int",
        ]
        body = "class a\n  method m(): int\n    body\n      let "
        forms += [body + row for row in ["{} = ask", "x = new {}()", "x = call {}.m()", "x = call o.{}()", "x = call o.m({})",
                                         "x = call o.m(o, {})", "x = as {} a", "x = as o {}", "x = next({})"]]
        forms.append("class a\n  method m(): int\n    body\n      return {}")
        for form in forms:
            row = form.count("\n")
            rest = "\n    body\n      halt" if "method" in form and "body" not in form else ""
            rest = "\n      halt" if "let" in form else rest
            self.assertIs(refused_row(form.format("zz") + rest), None, form)
            for name in reserved + ["", "A", "aB", "a1", "a_b", "abcdefghi", "a.b", "a b", "-", "1", "x + 1 + 2", "(", "a,b", "'a'"]:
                kind = name == "int" and ("): {}" in form or "x: {}" in form)
                selves = name == "self" and ("call {}" in form or "({})" in form or ", {})" in form or "as {} a" in form
                                             or "return {}" in form)
                none = name == "" and ("m({})" in form or "next({})" in form)
                field = name == "a b" and form in ("class a: {}", "class a: b {}")
                if not (kind or selves or none or field):
                    self.bad(row, form.format(name) + rest)

    def test_terms(self):
        # Terms are words of any kind, two of them with a dot between.
        form = "class a\n  method m(): int\n    pre {} <= {} + 0\n    body\n      return {} + 0"
        for term in ["x", "abcdefgh", "class", "result", "int", "or", "self", "self.f", "a.zero", "zero.a", "if.else", "zero", "post.pre"]:
            self.assertIs(refused_row(form.format(term, "x", "x")), None)
            self.assertIs(refused_row(form.format("x", term, "x")), None)
            self.assertIs(refused_row(form.format("x", "x", term)), None)
        for term in ["", ".", "x.", ".x", "a.b.c", "X", "x1", "abcdefghi", "a.abcdefghi", "0", "-", "a..b", "x_", "a b", "''"]:
            self.bad(2, form.format(term, "x", "x"))
            self.bad(2, form.format("x", term, "x"))
            self.bad(4, form.format("x", "x", term))

    def test_numbers(self):
        forms = ["class a\n  where zero <= zero + {}", "class a\n  method m(): int\n    body\n      return zero + {}",
                 "class a\n  method m(): int\n    body\n      let x = int zero + {}\n      halt"]
        for form in forms:
            row = [at for at, one in enumerate(form.split("\n")) if "{}" in one][0]
            for number in ["0", "1", "-1", "10", "9" * 100, "-" + "9" * 100, "1" + "0" * 99]:
                self.assertIs(refused_row(form.format(number)), None)
            for number in ["", "-", "+1", "-0", "00", "01", "-01", "1.", "1.0", "1_0", "0x1", "1e3", "--1", "- 1", " 1", "1 ", "a", "x",
                           "9" * 101, "-" + "9" * 101, "1" + "0" * 100, "0" * 101, "True"]:
                self.bad(row, form.format(number))

    def test_clauses(self):
        rows = ["class a", "  method m(x: int): int", "    body", "      halt"]
        clause = "x <= zero + {}"

        def text(word, *clauses):
            return "\n".join(rows[:2] + [f"    {word} {one}" for one in clauses] + rows[2:])
        for word in ("pre", "post"):
            four = [clause.format(k) for k in range(4)]
            self.assertEqual(len(read(text(word, *four))["a"].methods[0].pre) in (0, 4), True)
            self.bad(6, text(word, *four, clause.format(4)))
            self.bad(6, text(word, *four, "x"))
            double = clause.format(1) + " or " + clause.format(2)
            for at in range(4):
                one = four[:at] + [double] + four[at + 1:]
                self.assertIs(refused_row(text(word, *one)), None)
                for other in range(at + 1, 4):
                    self.bad(2 + other, text(word, *one[:other], double, *one[other + 1:]))
            for wrong in [double + " or " + four[0], four[0] + " or", four[0] + " or  " + four[1], four[0] + "  or " + four[1],
                          four[0] + " and " + four[1], "or " + four[0], four[0] + " " + four[1], four[0] + " or x",
                          "x < zero + 1", "x <= zero", "x <= zero - 1", "x <= 1", "1 <= x + 0", "x + 1 <= zero + 1", "x <= zero +1",
                          "x<= zero + 1", "x <= zero + 1,", "(x <= zero + 1)", "", "x >= zero + 1", "x == zero + 1"]:
                self.bad(2, text(word, wrong))
                self.bad(3, text(word, four[0], wrong))
        both = text("pre", *[clause.format(k) for k in range(4)]).replace("    body", "    post x <= zero + 1\n" * 4 + "    body")
        self.assertIs(refused_row(both), None)
        self.bad(10, both.replace("    body", "    post x <= zero + 1\n    body"))

    def test_wheres(self):
        one = "  where zero <= self.f + {}"
        double = "  where zero <= self.f + 1 or self.f <= zero + 2"
        head = ["class a", "  field f"]
        four = [one.format(k) for k in range(4)]
        self.assertEqual(len(read("\n".join(head + four))["a"].where), 4)
        self.bad(6, "\n".join(head + four + [one.format(4)]))
        # The first one with two literals is looked at by the library alone, the second one cannot stand there.
        with self.assertRaises(BadLibrary) as caught:
            read("\n".join(head + [double]))
        self.assertEqual((caught.exception.at, caught.exception.why), ("a", "where"))
        self.bad(3, "\n".join(head + [double, double]))
        self.bad(4, "\n".join(head + [double, four[0], double]))
        # A clause that cannot stand is told ahead of what a library would refuse.
        self.bad(3, "\n".join(["class a: zz", "  field f", double, double]))

    def test_methods_and_expressions(self):
        for row in ["method m() : int", "method m (): int", "method m(): int:", "method m()", "method m(x): int", "method m(x:int): int",
                    "method m(x: int,y: int): int", "method m(x: int , y: int): int", "method m( ): int", "method m(x: int, ): int",
                    "method m(, x: int): int", "method m(x: int y: int): int", "method m: int", "method m(): ", "method m():int",
                    "method (): int", "method m(x: int)): int", "method m((x: int): int", "def m(): int", "method m(x: int; y: int): int"]:
            self.bad(1, f"class a\n  {row}\n    body\n      halt")
        for row in ["let x = ask()", "let x = asks", "let x ask", "let x= ask", "let x =ask", "let = ask", "let x = ", "let x", "let x = int",
                    "let x = int x", "let x = int x+1", "let x = int 5", "let x = x + 1", "let x = int x + 1 or", "let x = new a",
                    "let x = new a(", "let x = new a)", "let x = new (x + 1)", "let x = new a(o)", "let x = new a(x + 1,)",
                    "let x = new a(x + 1,x + 1)", "let x = new a(x + 1 , x + 1)", "let x = new a( )", "let x = new a (x + 1)",
                    "let x = new a(x + 1) ", "let x = call o(x + 1)", "let x = call o.m", "let x = call .m()", "let x = call o.()",
                    "let x = call o.m.n()", "let x = call o m()", "let x = call m()", "let x = call o.m(x + 1", "let x = call o.m(x)(y)",
                    "let x = call o.m(x + y)", "let x = call o.m(zero)", "let x = call o.m(o.f)", "let x = next", "let x = next (x + 1)",
                    "let x = next(x + 1", "let x = next(zero)", "let x = next()()", "let x = as o", "let x = as o a b", "let x = as o.a",
                    "let x = as a", "let x = as  o a", "let x = halt", "let x = let y = ask", "let x = o", "var x = ask", "x = ask"]:
            self.bad(3, f"class a\n  method m(): int\n    body\n      {row}\n      halt")
        for row in ["return", "return ", "return x", "return x +", "return 1", "return o.f", "return zero", "return x + 1 + 1", "return (x + 1)",
                    "return x - 1", "return x + y", "returns x + 1", "halts", "halt ", "halt x", "pass", "if", "if ", "if x <= y", "if x",
                    "if x <= y + 1 or x <= y + 2", "if x <= y + 1:", "try:", "try x", "tries", "next(x + 1)", "ask"]:
            if row != "return x":
                self.bad(3, f"class a\n  method m(): int\n    body\n      {row}")

    def test_looked_at_by_the_library_alone(self):
        def refused(at, why, *rows):
            with self.assertRaises(BadLibrary) as caught:
                read("\n".join(rows))
            self.assertEqual((caught.exception.at, caught.exception.why), (at, why))
        method = ["  method m(): int", "    body", "      halt"]
        refused("e", "bases", "class a", "class b", "class c", "class d", "class e: a b c d")
        refused("b", "bases", "class a", "class b: a a")
        refused("b", "bases", "class b: a")
        refused("a", "ring", "class a: a")
        refused(1, "classes", "class a", "class a")
        refused(30, "classes", *[f"class {one}{other}" for one in "bcdefg" for other in "bcdefg"])
        refused("a", "fields", "class a", *[f"  field {name}" for name in "fghi"])
        refused("a", "fields", "class a", "  field f", "  field f")
        refused("a", "where", "class a", "  where zero <= self.f + 0")
        refused("a", "methods", "class a", *method, *method)
        refused("a", "methods", "class a", *[row.replace("m(", name + "(") for name in "mnkl" for row in method])
        refused(("a", "m"), "params", "class a", "  method m(x: int, x: int): int", *method[1:])
        refused(("a", "m"), "params", "class a", "  method m(x: int, y: int, z: int, w: int): int", *method[1:])
        refused(("a", "m"), "params", "class a", "  method m(x: zz): int", *method[1:])
        refused(("a", "m"), "result", "class a", "  method m(): zz", *method[1:])
        refused(("a", "m"), "pre", "class a", method[0], "    pre x <= zero + 0", *method[1:])
        refused(("a", "m"), "post", "class a", method[0], "    post x <= zero + 0", *method[1:])
        refused(("a", "m", ()), "term", "class a", *method[:2], "      return x + 0")
        refused(("a", "m", ()), "size", "class a", *method[:2], *[f"      let v{one}{other} = ask" for one in "abcdefg" for other in "abcdef"],
                "      halt")
        # A row that cannot stand at the end comes ahead of all of these.
        self.bad(2, "class a: zz\nclass a: a a\n")


ROWS = {
    "class": r"class N(: N( N)*)?", "field": r"field N", "where": r"where C", "method": r"method N\((P(, P)*)?\): K", "pre": r"pre C",
    "post": r"post C", "body": r"body", "let": r"let N = (int V|ask|new N\((V(, V)*)?\)|call O\.N\((I(, I)*)?\)|next\((I(, I)*)?\)|as O N)",
    "end": r"halt|return I", "if": r"if L", "try": r"try", "else": r"else",
}
WORDS = "as ask body call class else field halt if int let method next none post pre result return self try where zero".split()


def pattern(text):
    """A regular expression of a row; capital letters stand for names and the like."""
    name = r"(?!(?:" + "|".join(WORDS) + r")\b)[a-z]{1,8}\b"
    term = r"[a-z]{1,8}(?:\.[a-z]{1,8})?"
    number = r"(?:0|-?[1-9][0-9]{0,99})"
    value = rf"{term} \+ {number}"
    literal = rf"{term} <= {value}"
    seen = rf"(?:self|{name})"
    letters = {"N": name, "C": rf"{literal}(?: or {literal})?", "P": rf"{name}: (?:int|{name})", "K": rf"(?:int|{name})", "V": value,
               "O": seen, "I": rf"(?:{value}|{seen})", "L": literal}
    return re.compile("".join(letters.get(sign, sign) for sign in text))


PATTERNS = {kind: pattern(row) for kind, row in ROWS.items()}


def naive_row(text):
    """The first row that cannot stand there, told by what may follow each row; None if there is none."""
    rows = text.split("\n") if text else []
    wanted = [(0, "class")]
    ends = True
    clauses = []
    # The levels of the parts that are still to come: of an else, and then of its part.
    waiting = []
    for at, row in enumerate(rows):
        kind = None
        for level, word in wanted:
            if row.startswith("  " * level) and PATTERNS[word].fullmatch(row[2 * level:]):
                kind, depth = word, level
        if kind in ("where", "pre", "post"):
            many = 2 if " or " in row and len(row.split()) == 12 else 1
            same = [one for word, one in clauses if word == kind]
            if len(same) == 4 or (many == 2 and 2 in same):
                kind = None
            clauses.append((kind, many))
        if kind is None:
            return at
        ends = False
        if kind in ("class", "field", "where"):
            clauses = [] if kind == "class" else clauses
            words = ["field", "where", "method"][{"class": 0, "field": 0, "where": 1}[kind]:]
            wanted, ends = [(1, word) for word in words] + [(0, "class")], True
        elif kind in ("method", "pre", "post"):
            clauses = [] if kind == "method" else clauses
            wanted = [(2, word) for word in ["pre", "post", "body"][kind == "post":]]
        elif kind in ("body", "let", "if", "try", "else"):
            depth = {"body": 3, "let": depth}.get(kind, depth + 1)
            wanted = [(depth, word) for word in ("let", "end", "if", "try")]
            if kind in ("if", "try"):
                waiting.append(depth - 1)
        elif waiting:
            wanted = [(waiting.pop(), "else")]
        else:
            wanted, ends = [(1, "method"), (0, "class")], True
    return None if ends else len(rows)


class Spoilt(unittest.TestCase):
    """Random texts, spoilt at random, against naive_row."""

    def spoil(self, rng, rows):
        rows = list(rows)
        at = rng.randrange(len(rows))
        roll = rng.randrange(9)
        if roll == 0:
            del rows[at]
        elif roll == 1:
            rows.insert(at, rng.choice(rows))
        elif roll == 2:
            other = rng.randrange(len(rows))
            rows[at], rows[other] = rows[other], rows[at]
        elif roll == 3:
            rows[at] = "  " * rng.randrange(5) + rows[at].lstrip()
        elif roll == 4:
            rows = rows[:at]
        elif roll == 5:
            place = rng.randrange(len(rows[at]) + 1)
            rows[at] = rows[at][:place] + rng.choice(" x,.()+-:0") + rows[at][place:]
        elif roll == 6 and rows[at]:
            place = rng.randrange(len(rows[at]))
            rows[at] = rows[at][:place] + rows[at][place + 1:]
        elif roll == 7:
            words = rows[at].split(" ")
            words[rng.randrange(len(words))] = rng.choice(WORDS + ["x", "or", "5", "-0", "a.b", ""])
            rows[at] = " ".join(words)
        else:
            rows.insert(at, rng.choice(ALL.split("\n")))
        return rows

    def test_against_the_naive_one(self):
        bad = 0
        good = 0
        for seed in range(250):
            rng = random.Random(seed)
            try:
                text = shown(randoms.library(rng, dense=seed % 2 == 0))
            except BadLibrary:
                continue
            self.assertIs(naive_row(text), None)
            for _ in range(20):
                rows = text.split("\n")
                for _ in range(rng.randrange(1, 3)):
                    rows = self.spoil(rng, rows) if rows else rows
                spoilt = "\n".join(rows)
                wanted = naive_row(spoilt)
                self.assertEqual(refused_row(spoilt), wanted, spoilt)
                bad += wanted is not None
                good += wanted is None
        self.assertGreater(min(bad, good), 400)


if __name__ == "__main__":
    unittest.main()
