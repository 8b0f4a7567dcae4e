"""The rules of the language that a test can see at a glance: files, imports, names, sizes, and plain statements."""

import ast
import functools
import pathlib
import re
import unittest

FOLDER = pathlib.Path(__file__).resolve().parent.parent / "pullworks"

FILES = sorted(FOLDER.glob("*.py"))

BUILTINS = """len range enumerate zip min max sum abs sorted reversed int str bool bytes list tuple dict set frozenset isinstance
ord repr any all divmod pow getattr hasattr setattr iter next map type super Exception ValueError TypeError KeyError IndexError
LookupError ZeroDivisionError ArithmeticError OverflowError RuntimeError NotImplementedError StopIteration
NotImplemented""".split()

METHODS = """append clear copy count endswith extend find get index insert isalnum isalpha isdigit islower isspace isupper items
join keys ljust lower lstrip partition pop remove replace reverse rfind rjust rpartition rsplit rstrip setdefault split
splitlines startswith strip update upper values zfill bit_length add discard""".split()

BARRED = """register mro elements open input law version_info with_traceback add_note typing enum dataclass namedtuple globals
locals eval exec vars dir id hash print""".split()

DOUBLES = """__init__ __eq__ __ne__ __lt__ __le__ __gt__ __ge__ __repr__ __str__ __len__ __contains__ __getitem__ __setitem__
__iter__ __enter__ __exit__ __call__ __bool__ __neg__ __abs__ __add__ __sub__ __mul__ __class__ __name__ __slots__""".split()

STATEMENTS = (ast.Assign, ast.AugAssign, ast.If, ast.While, ast.For, ast.Return, ast.Break, ast.Continue, ast.Pass, ast.Raise,
              ast.Assert, ast.Delete, ast.Try, ast.Expr, ast.FunctionDef, ast.Match, ast.With, ast.Nonlocal, ast.AnnAssign)

LIBRARY = {
    "heapq": ["heappush", "heappop", "heapify", "heapreplace", "heappushpop"],
    "math": ["gcd", "lcm", "isqrt", "comb", "perm", "factorial"],
    "itertools": ["product", "combinations", "permutations", "chain", "accumulate", "pairwise", "islice", "zip_longest"],
    "collections": ["defaultdict", "deque"],
}


@functools.cache
def trees():
    return [(path.name, ast.parse(path.read_text("ascii"))) for path in FILES]


@functools.cache
def all_nodes():
    return [(name, node) for name, tree in trees() for node in ast.walk(tree)]


def nodes_of(kind):
    return [(name, node) for name, node in all_nodes() if isinstance(node, kind)]


@functools.cache
def global_words():
    """Return for each file the names of its classes and of what it imports."""
    return {name: {alias.name for row in tree.body if isinstance(row, ast.ImportFrom) for alias in row.names}
            | {row.name for row in tree.body if isinstance(row, ast.ClassDef)} for name, tree in trees()}


class LanguageTest(unittest.TestCase):

    def test_files(self):
        self.assertIn("__init__.py", [path.name for path in FILES])
        others = [path for path in FOLDER.iterdir() if path.name != "__pycache__" and path not in FILES]
        self.assertEqual(others, [])
        for path in FILES:
            lines = path.read_text("ascii").split("\n")
            self.assertLessEqual(len(lines), 399, path.name)
            self.assertLessEqual(max(map(len, lines)), 120, path.name)
            self.assertEqual([line for line in lines if re.search(r"[^ -~]|_wall|_WallAttr", line)], [], path.name)

    def test_functions_are_small(self):
        for name, node in nodes_of(ast.FunctionDef):
            self.assertLessEqual(node.end_lineno - node.lineno + 1, 40, (name, node.name))
            for row in node.decorator_list:
                self.assertRegex(ast.unparse(row), r"^(property|staticmethod|classmethod|\w+\.setter)$", (name, node.name))

    def test_module_level(self):
        for name, tree in trees():
            for row in tree.body:
                self.assertIsInstance(row, (ast.Expr, ast.ImportFrom, ast.FunctionDef, ast.ClassDef, ast.Assign), (name, row.lineno))
                if isinstance(row, ast.Expr):
                    self.assertIsInstance(row.value, ast.Constant, (name, row.lineno))

    def test_one_binding_for_each_name(self):
        for name, tree in trees():
            bound = [row.name for row in tree.body if isinstance(row, (ast.FunctionDef, ast.ClassDef))]
            bound += [alias.name for row in tree.body if isinstance(row, ast.ImportFrom) for alias in row.names]
            bound += [target.id for row in tree.body if isinstance(row, ast.Assign) for target in row.targets]
            self.assertEqual(sorted(bound), sorted(set(bound)), name)

    def test_imports(self):
        self.assertEqual(nodes_of(ast.Import), [])
        reads = {path.stem: [] for path in FILES}
        for name, node in nodes_of(ast.ImportFrom):
            self.assertEqual(node.level, 0, name)
            self.assertEqual([alias.asname for alias in node.names if alias.asname], [], name)
            if node.module in LIBRARY:
                self.assertLessEqual({alias.name for alias in node.names}, set(LIBRARY[node.module]), name)
                continue
            package, _, lower = node.module.partition(".")
            self.assertEqual((package, lower in reads), ("pullworks", True), (name, node.module))
            reads[name[:-3]].append(lower)
            made = [row for row in ast.parse((FOLDER / (lower + ".py")).read_text()).body if not isinstance(row, ast.ImportFrom)]
            for alias in node.names:
                self.assertTrue([row for row in made if alias.name in (getattr(row, "name", ""), self.target(row))], alias.name)
        while free := [name for name in reads if not reads[name]]:
            reads = {name: [lower for lower in reads[name] if lower not in free] for name in reads if name not in free}
        self.assertEqual(reads, {}, "files that import from each other")

    def target(self, row):
        return row.targets[0].id if isinstance(row, ast.Assign) else ""

    def test_statements(self):
        for name, node in nodes_of(ast.FunctionDef):
            for row in ast.walk(node):
                if isinstance(row, ast.stmt):
                    self.assertIsInstance(row, STATEMENTS, (name, row.lineno))

    def test_expressions(self):
        for kind in (ast.Div, ast.MatMult, ast.Await, ast.AsyncFunctionDef, ast.AsyncFor):
            self.assertEqual([(name, node) for name, node in nodes_of(kind)], [])
        for name, node in nodes_of(ast.Constant):
            self.assertNotIsInstance(node.value, (float, complex), name)
            if isinstance(node.value, str):
                self.assertNotIn("%", node.value, (name, node.lineno))
        for name, node in nodes_of(ast.BinOp):
            if isinstance(node.op, ast.Pow):
                self.assertIsInstance(node.right, ast.Constant, (name, node.lineno))
        for name, node in nodes_of(ast.Compare):
            for op, right in zip(node.ops, node.comparators):
                if isinstance(op, (ast.Is, ast.IsNot)):
                    self.assertIsInstance(right, ast.Constant, (name, node.lineno))

    def test_names(self):
        own = [node.name for _, node in nodes_of((ast.FunctionDef, ast.ClassDef))]
        known = set(dir(__builtins__)) if not isinstance(__builtins__, dict) else set(__builtins__)
        for name, node in nodes_of((ast.Name, ast.arg, ast.Attribute, ast.FunctionDef, ast.ClassDef)):
            word = {ast.Name: "id", ast.arg: "arg", ast.Attribute: "attr"}.get(type(node), "name")
            word = getattr(node, word)
            self.assertNotIn(word, BARRED, (name, node.lineno))
            if word.startswith("__"):
                self.assertIn(word, DOUBLES, (name, node.lineno))
            if isinstance(node, ast.Name) and isinstance(node.ctx, ast.Load) and word in known and word not in own:
                self.assertIn(word, BUILTINS, (name, node.lineno))
            if isinstance(node, ast.arg) or isinstance(node, ast.Name) and isinstance(node.ctx, ast.Store):
                self.assertNotIn(word, known, (name, node.lineno))
                self.assertNotIn(word, global_words()[name], (name, node.lineno))

    def test_methods_and_attributes(self):
        methods = {node.name for _, one in nodes_of(ast.ClassDef) for node in one.body if isinstance(node, ast.FunctionDef)}
        stored = {node.attr for _, node in nodes_of(ast.Attribute) if isinstance(node.ctx, ast.Store)}
        self.assertEqual(methods & stored, set())
        self.assertEqual(stored & set("items keys values pop update append clear extend insert remove".split()), set())
        for name, node in nodes_of(ast.Attribute):
            if isinstance(node.ctx, ast.Load):
                self.assertIn(node.attr, [*stored, *methods, *METHODS], (name, node.lineno))

    def test_builtins_that_take_lists(self):
        # A class of the package compares, so no generator expression stands in these.
        self.assertEqual([(name, node.lineno) for name, node in nodes_of(ast.GeneratorExp)], [])

    def test_methods_that_are_called(self):
        own = [node.name for _, node in nodes_of(ast.FunctionDef)]
        for name, node in nodes_of(ast.Call):
            if isinstance(node.func, ast.Attribute):
                self.assertIn(node.func.attr, METHODS + own, (name, node.lineno))

    def test_a_class_that_compares_sorts_by_sorted(self):
        self.assertEqual([(name, node.lineno) for name, node in nodes_of(ast.Attribute) if node.attr == "sort"], [])


if __name__ == "__main__":
    unittest.main()
