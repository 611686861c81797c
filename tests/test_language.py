"""The rules for the files of the package that a short program can check."""

import ast
import builtins
import pathlib
import re
import unittest

PACKAGE = pathlib.Path(__file__).resolve().parent.parent / "cutproof"
FILES = sorted(path for path in PACKAGE.rglob("*") if "__pycache__" not in path.parts)
SOURCES = {path: path.read_text(encoding="utf-8") for path in FILES if path.suffix == ".py"}
TREES = {path: ast.parse(source) for path, source in SOURCES.items()}

LIBRARY = {
    "heapq": {"heappush", "heappop", "heapify", "heapreplace", "heappushpop"},
    "math": {"gcd", "lcm", "isqrt", "comb", "perm", "factorial"},
    "itertools": {"chain", "accumulate", "pairwise", "islice", "zip_longest"},
    "collections": {"defaultdict"},
}
BUILTINS = set(
    "len range enumerate zip min max sum abs sorted reversed int str bool list tuple dict set isinstance ord repr any"
    " all divmod pow map iter next getattr hasattr setattr super property staticmethod classmethod object"
    " Exception ValueError TypeError KeyError IndexError LookupError ZeroDivisionError ArithmeticError OverflowError"
    " RuntimeError NotImplementedError AttributeError StopIteration NotImplemented".split()
)
METHODS = set(
    "__init__ __eq__ __repr__ __str__ __len__ __enter__ __exit__ __call__ __iter__ __lt__ __le__ __gt__ __ge__ __ne__"
    " __add__ __sub__ __mul__ __floordiv__ __mod__ __pow__ __and__ __or__ __xor__ __lshift__ __rshift__"
    " __neg__ __pos__ __invert__ __abs__ __bool__ __contains__ __getitem__ __setitem__".split()
)
UNUSED = re.compile(
    r"\b(typing|typing_extensions|enum|Enum|IntEnum|StrEnum|Flag|IntFlag|Generic|Protocol|ABC|ABCMeta|namedtuple"
    r"|NamedTuple|TypedDict|TYPE_CHECKING|abstractmethod|eval|exec|open|input|globals|locals|vars|dir|help)\b"
    r"|dataclass|overload|contextmanager|_wall|\(type\)|Meta|metaclass="
)
BARRED = (ast.Global, ast.AsyncFunctionDef, ast.Await, ast.AsyncFor, ast.AsyncWith, ast.Div)


def nodes(*kinds):
    for path, tree in TREES.items():
        for node in ast.walk(tree):
            if isinstance(node, kinds):
                yield path, node


class Language(unittest.TestCase):
    def test_files(self):
        self.assertTrue(SOURCES)
        self.assertIn(PACKAGE / "__init__.py", FILES)
        for path in FILES:
            if path.is_file():
                self.assertRegex(path.name, r"^[a-z0-9_]+\.py$")
            else:
                self.assertTrue((path / "__init__.py").is_file(), path)

    def test_characters_and_sizes(self):
        for path, source in SOURCES.items():
            self.assertEqual(set(re.sub(r"[ -~\n]", "", source)), set(), path)
            lines = source.split("\n")
            self.assertLessEqual(len(lines), 399, path)
            self.assertLessEqual(max(len(line) for line in lines), 120, path)
        for path, node in nodes(ast.FunctionDef):
            self.assertLessEqual(node.end_lineno - node.lineno + 1, 40, (path, node.name))

    def test_imports(self):
        for path, node in nodes(ast.Import):
            self.fail(f"{path}, line {node.lineno}")
        for path, node in nodes(ast.ImportFrom):
            self.assertIn(node, TREES[path].body)
            self.assertEqual(node.level, 0)
            for alias in node.names:
                self.assertIsNone(alias.asname)
                if node.module in LIBRARY:
                    self.assertIn(alias.name, LIBRARY[node.module])
                else:
                    target = TREES[PACKAGE / (node.module.removeprefix("cutproof.") + ".py")]
                    self.assertIn(alias.name, bound_in(target), (path, node.lineno))

    def test_module_level(self):
        for path, tree in TREES.items():
            for node in tree.body:
                docstring = isinstance(node, ast.Expr) and isinstance(node.value, ast.Constant)
                allowed = (ast.ImportFrom, ast.FunctionDef, ast.ClassDef, ast.Assign)
                self.assertTrue(docstring or isinstance(node, allowed), (path, node.lineno))

    def test_names(self):
        for path, node in nodes(ast.Name):
            where = (path, node.lineno, node.id)
            self.assertRegex(node.id, r"^_?[A-Za-z]", where)
            if hasattr(builtins, node.id):
                self.assertIn(node.id, BUILTINS, where)
                self.assertIsInstance(node.ctx, ast.Load, where)
        for path, node in nodes(ast.arg):
            self.assertFalse(hasattr(builtins, node.arg), (path, node.lineno, node.arg))

    def test_functions_and_classes(self):
        for path, node in nodes(ast.FunctionDef):
            where = (path, node.lineno, node.name)
            if node.name.startswith("__"):
                self.assertIn(node.name, METHODS, where)
            else:
                self.assertFalse(hasattr(builtins, node.name), where)
            for decorator in node.decorator_list:
                self.assertRegex(ast.unparse(decorator), r"^(property|staticmethod|classmethod|\w+\.setter)$", where)
        for path, node in nodes(ast.ClassDef):
            self.assertIn(node, TREES[path].body)
            self.assertEqual((node.decorator_list, node.keywords), ([], []))

    def test_what_is_left_out(self):
        for path, node in nodes(*BARRED):
            self.fail(f"{path}: {ast.dump(node)}")
        for path, node in nodes(ast.Constant):
            self.assertNotIsInstance(node.value, (float, complex, bytes), (path, node.lineno))
            if isinstance(node.value, str):
                self.assertNotIn("%", node.value, (path, node.lineno))
        for path, node in nodes(ast.Compare):
            if any(isinstance(operator, (ast.Is, ast.IsNot)) for operator in node.ops):
                self.assertIn(ast.unparse(node.comparators[-1]), ("None", "True", "False"), (path, node.lineno))
        for path, source in SOURCES.items():
            self.assertIsNone(UNUSED.search(source), path)

    def test_what_operators_and_generators_leave_out(self):
        for path, node in nodes(ast.GeneratorExp, ast.Lambda):
            self.fail(f"{path}, line {node.lineno}")
        for path, node in nodes(ast.Attribute):
            self.assertNotIn(node.attr, ("sort", "keys", "format"), (path, node.lineno))
        generators = {node.name for _, node in nodes(ast.FunctionDef) if yields(node)}
        for path, node in nodes(ast.FunctionDef):
            if not yields(node):
                self.assertNotIn(node.name, generators, path)
        for path, node in nodes(ast.Name):
            self.assertNotIsInstance(node.ctx if node.id in generators else None, ast.Store, path)

    def test_sets_stand_only_where_they_may(self):
        for path, tree in TREES.items():
            for node in ast.walk(tree):
                for child in ast.iter_child_nodes(node):
                    if is_set(child):
                        called = isinstance(node, ast.Call) and ast.unparse(node.func) in ("sorted", "len")
                        self.assertTrue(called or isinstance(node, (ast.BinOp, ast.Compare)), (path, child.lineno))


def yields(function):
    return any(isinstance(node, (ast.Yield, ast.YieldFrom)) for node in ast.walk(function))


def is_set(node):
    """Whether a set is made here; the variables that keep one are not looked at."""
    made = isinstance(node, ast.Call) and ast.unparse(node.func) == "set"
    return made or isinstance(node, (ast.Set, ast.SetComp))


def bound_in(tree):
    """The names that a module itself defines."""
    names = [node.name for node in tree.body if isinstance(node, (ast.FunctionDef, ast.ClassDef))]
    return names + [node.targets[0].id for node in tree.body if isinstance(node, ast.Assign)]


if __name__ == "__main__":
    unittest.main()
