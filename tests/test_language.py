"""The rules of LANGUAGE.md that are easily looked up in the code; the others are for the reader."""

import ast
import builtins
import pathlib
import unittest

FOLDER = pathlib.Path(__file__).parent.parent / "contractheirs"
FILES = sorted(FOLDER.glob("**/*.py"))

BUILTINS = """len range enumerate zip min max sum abs sorted reversed int str bool bytes list tuple dict set frozenset
isinstance ord repr any all divmod pow getattr hasattr setattr iter next map super property staticmethod classmethod
Exception ValueError TypeError KeyError IndexError LookupError ZeroDivisionError ArithmeticError OverflowError
RuntimeError NotImplementedError AttributeError StopIteration NotImplemented""".split()

LIBRARY = {
    "heapq": ["heappush", "heappop", "heapify", "heapreplace", "heappushpop"],
    "math": ["gcd", "lcm", "isqrt", "comb", "perm", "factorial"],
    "itertools": ["product", "combinations", "permutations", "chain", "accumulate", "pairwise", "islice", "zip_longest"],
    "collections": ["defaultdict"],
}

OPERATORS = """__init__ __eq__ __repr__ __str__ __len__ __enter__ __exit__ __call__ __iter__ __lt__ __le__ __gt__ __ge__
__ne__ __add__ __sub__ __mul__ __and__ __or__ __xor__ __contains__ __getitem__ __setitem__ __bool__ __neg__""".split()

# L17, L26: names that nothing may have, and attributes that would hide those of values of Python's own.
NO_NAMES = "register mro elements open input law version_info with_traceback add_note".split()
NO_ATTRIBUTES = """items keys values pop update append clear extend insert remove reverse setdefault sort args encode
decode hex fromhex format""".split()


def nodes(kind):
    for path in FILES:
        for node in ast.walk(ast.parse(path.read_text())):
            if isinstance(node, kind):
                yield path.name, node


class Language(unittest.TestCase):

    def test_files(self):
        self.assertIn(FOLDER / "__init__.py", FILES)
        for path in FILES:
            text = path.read_bytes().decode("ascii")
            self.assertTrue(text.endswith("\n"))
            self.assertTrue(all(" " <= sign <= "~" or sign == "\n" for sign in text), path.name)
            rows = text.split("\n")
            self.assertLessEqual(len(rows), 399, path.name)
            self.assertLessEqual(max(map(len, rows)), 120, path.name)
            self.assertEqual(path.name, path.name.lower())

    def test_functions_are_short(self):
        for name, node in nodes((ast.FunctionDef, ast.Lambda)):
            self.assertLessEqual(node.end_lineno - node.lineno + 1, 40, (name, node.lineno))

    def test_imports(self):
        for name, node in nodes((ast.Import, ast.ImportFrom)):
            self.assertIsInstance(node, ast.ImportFrom, name)
            self.assertEqual((node.level, {one.asname for one in node.names}), (0, {None}), name)
            if not node.module.startswith("contractheirs."):
                self.assertLessEqual({one.name for one in node.names}, set(LIBRARY[node.module]), name)

    def test_no_import_goes_round(self):
        reads = {path.stem: [] for path in FILES}
        for name, node in nodes(ast.ImportFrom):
            if node.module.startswith("contractheirs."):
                reads[name[:-3]].append(node.module.split(".")[1])
        while reads:
            done = [name for name in reads if not reads[name]]
            self.assertTrue(done, reads)
            reads = {name: [one for one in row if one not in done] for name, row in reads.items() if name not in done}

    def test_builtins(self):
        for name, node in nodes(ast.Name):
            if node.id != "_" and hasattr(builtins, node.id):
                self.assertIn(node.id, BUILTINS, (name, node.lineno))
                self.assertIsInstance(node.ctx, ast.Load, (name, node.lineno))

    def test_names(self):
        for name, node in nodes((ast.Name, ast.Attribute, ast.arg, ast.FunctionDef, ast.ClassDef)):
            word = [getattr(node, key) for key in ("id", "attr", "arg", "name") if hasattr(node, key)][0]
            self.assertNotIn(word, NO_NAMES, (name, node.lineno))
            if word.startswith("__"):
                self.assertIn(word, OPERATORS, (name, node.lineno))
            if isinstance(node, (ast.arg, ast.ClassDef)):
                self.assertFalse(hasattr(builtins, word), (name, node.lineno))

    def test_no_name_is_a_method_and_an_attribute(self):
        methods = {part.name for _, node in nodes(ast.ClassDef) for part in node.body if isinstance(part, ast.FunctionDef)}
        values = {part.targets[0].id for _, node in nodes(ast.ClassDef) for part in node.body
                  if isinstance(part, ast.Assign)}
        attributes = {node.attr for _, node in nodes(ast.Attribute) if isinstance(node.ctx, ast.Store)}
        self.assertEqual(methods & (attributes | values), set())
        self.assertEqual(attributes & values, set())

    def test_tables_are_not_passed_on(self):
        # L15: a list or dict at module level is read where its name stands.
        for path in FILES:
            tree = ast.parse(path.read_text())
            tables = [node.targets[0].id for node in tree.body
                      if isinstance(node, ast.Assign) and isinstance(node.value, (ast.Dict, ast.List))]
            for node in ast.walk(tree):
                if isinstance(node, ast.Call):
                    passed = [one.id for one in node.args if isinstance(one, ast.Name)]
                    self.assertFalse([name for name in passed if name in tables], (path.name, node.lineno))

    def test_attributes(self):
        for name, node in nodes(ast.Attribute):
            if isinstance(node.ctx, ast.Store):
                self.assertNotIn(node.attr, NO_ATTRIBUTES, (name, node.lineno))

    def test_statements(self):
        for name, node in nodes((ast.Global, ast.AsyncFunctionDef, ast.Await, ast.Import, ast.Div)):
            self.fail((name, node))

    def test_no_generator_expressions_in_any_and_the_like(self):
        for name, node in nodes(ast.Call):
            if isinstance(node.func, ast.Name) and node.func.id in ("any", "all", "sum", "min", "max", "sorted"):
                self.assertFalse([one for one in node.args if isinstance(one, ast.GeneratorExp)], (name, node.lineno))

    def test_stars_in_calls(self):
        # L7: names, attributes off a name, literals, and lists, tuples and dicts of these.
        def is_plain(node):
            if isinstance(node, (ast.List, ast.Tuple)):
                return all(is_plain(one) for one in node.elts)
            if isinstance(node, ast.Attribute):
                return isinstance(node.value, ast.Name)
            return isinstance(node, (ast.Name, ast.Constant))
        for name, node in nodes(ast.Call):
            at = [k for k, one in enumerate(node.args) if isinstance(one, ast.Starred)]
            if at:
                rest = [one.value if isinstance(one, ast.Starred) else one for one in node.args[at[0]:]]
                self.assertTrue(all(is_plain(one) for one in rest), (name, node.lineno))

    def test_generators_are_iterated_at_once(self):
        # L23: by a loop, a comprehension or one of some builtins; and nothing else has the name of one.
        functions = [(name, node) for name, node in nodes(ast.FunctionDef)]
        yielding = {node.name for _, node in functions if any(isinstance(one, (ast.Yield, ast.YieldFrom)) for one in ast.walk(node))}
        self.assertEqual([node.name for _, node in functions if node.name in yielding], sorted(yielding, key=[
            node.name for _, node in functions].index))
        allowed = set()
        for _, node in nodes((ast.For, ast.comprehension)):
            allowed.add((node.iter.lineno, node.iter.col_offset) if isinstance(node.iter, ast.Call) else None)
        for _, node in nodes(ast.Call):
            if isinstance(node.func, ast.Name) and node.func.id in ("list", "tuple", "sorted", "dict"):
                allowed.update((one.lineno, one.col_offset) for one in node.args)
        for name, node in nodes(ast.Call):
            if isinstance(node.func, ast.Name) and node.func.id in yielding:
                self.assertIn((node.lineno, node.col_offset), allowed, name)
        calls = {(name, node.func.lineno, node.func.col_offset) for name, node in nodes(ast.Call)}
        for name, node in nodes(ast.Name):
            if node.id in yielding:
                self.assertIn((name, node.lineno, node.col_offset), calls)

    def test_errors_are_created_where_they_are_raised(self):
        # L19.
        for name, node in nodes(ast.Raise):
            if node.exc is not None:
                self.assertIsInstance(node.exc, ast.Call, (name, node.lineno))
                self.assertTrue(node.exc.func.id[0].isupper(), (name, node.lineno))
            if node.cause is not None:
                self.assertIsInstance(node.cause, ast.Name, (name, node.lineno))

    def test_constants(self):
        for name, node in nodes(ast.Constant):
            self.assertNotIsInstance(node.value, (float, complex), name)
            if isinstance(node.value, str):
                self.assertNotIn("%", node.value, (name, node.lineno))

    def test_is(self):
        for name, node in nodes(ast.Compare):
            for sign, right in zip(node.ops, node.comparators):
                if isinstance(sign, (ast.Is, ast.IsNot)):
                    self.assertIsInstance(right, ast.Constant, (name, node.lineno))

    def test_module_level(self):
        kinds = (ast.Expr, ast.ImportFrom, ast.FunctionDef, ast.ClassDef, ast.Assign)
        for path in FILES:
            names = []
            for node in ast.parse(path.read_text()).body:
                self.assertIsInstance(node, kinds, path.name)
                if isinstance(node, ast.Assign):
                    names.append(node.targets[0].id)
                elif isinstance(node, ast.ImportFrom):
                    names.extend(one.name for one in node.names)
                elif not isinstance(node, ast.Expr):
                    names.append(node.name)
            self.assertEqual(len(names), len(set(names)), path.name)

    def test_no_local_has_the_name_of_an_import_or_a_class(self):
        for path in FILES:
            tree = ast.parse(path.read_text())
            taken = [one.name for node in tree.body if isinstance(node, ast.ImportFrom) for one in node.names]
            taken += [node.name for node in tree.body if isinstance(node, ast.ClassDef)]
            for node in ast.walk(tree):
                if isinstance(node, ast.arg):
                    self.assertNotIn(node.arg, taken, path.name)
                if isinstance(node, ast.Name) and isinstance(node.ctx, ast.Store):
                    self.assertNotIn(node.id, taken, path.name)


if __name__ == "__main__":
    unittest.main()
