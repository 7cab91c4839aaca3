"""The part of ../shared/LANGUAGE.md that a look at each file's tree can tell; the rest is for a reader."""

import ast
import builtins
import re
import unittest
from pathlib import Path

PACKAGE = Path(__file__).resolve().parent.parent / "roadgaps"

STATEMENTS = """Assign AugAssign AnnAssign If While For Return Break Continue Pass Raise Try Expr
    FunctionDef ClassDef Import ImportFrom""".split()

EXPRESSIONS = """BoolOp BinOp UnaryOp Lambda IfExp Dict Set ListComp Compare Call FormattedValue JoinedStr
    Constant Attribute Subscript Name List Tuple Slice""".split()

BUILT_IN = """len range enumerate zip min max sum abs sorted reversed int str bool list tuple dict set frozenset
    isinstance ord repr any all divmod Exception ValueError TypeError KeyError IndexError LookupError
    ZeroDivisionError ArithmeticError OverflowError RuntimeError NotImplementedError AttributeError
    StopIteration""".split()

METHODS = """append clear copy count endswith extend find get index insert isalnum isalpha isdigit islower
    isspace isupper items join keys ljust lower lstrip partition pop remove replace reverse rfind rjust
    rpartition rsplit rstrip setdefault split splitlines startswith strip update upper values zfill
    bit_length""".split()

DUNDERS = "__init__ __eq__ __repr__ __str__ __len__ __all__ __version__ __name__".split()

WORDS = re.compile(
    r"\b(type|typing|typing_extensions|enum|Enum|IntEnum|StrEnum|Flag|IntFlag|Generic|Protocol|ABC|ABCMeta"
    r"|namedtuple|NamedTuple|TypedDict|TYPE_CHECKING|abstractmethod)\b|dataclass|overload|contextmanager"
)


def sources():
    return sorted(path for path in PACKAGE.rglob("*") if path.is_file() and "__pycache__" not in path.parts)


def bound_names(tree):
    """All but the methods: those may be called like a name of Python's own."""
    classes = [node for node in ast.walk(tree) if isinstance(node, ast.ClassDef)]
    methods = [node for one in classes for node in one.body]
    for node in ast.walk(tree):
        if isinstance(node, (ast.FunctionDef, ast.ClassDef)) and node not in methods:
            yield node.name
        elif isinstance(node, ast.arg):
            yield node.arg
        elif isinstance(node, ast.Name) and isinstance(node.ctx, ast.Store):
            yield node.id


def own_modules():
    return ["roadgaps." + path.stem for path in sources() if path.stem != "__init__"]


def each(kind):
    """Every node of that kind in the package, and where it stands."""
    for path in sources():
        for node in ast.walk(ast.parse(path.read_text())):
            if isinstance(node, kind):
                yield f"{path.name}:{node.lineno}", node


class LanguageTest(unittest.TestCase):
    def test_files_and_signs(self):
        self.assertIn(PACKAGE / "__init__.py", sources())
        for path in sources():
            with self.subTest(file=path.name):
                self.assertRegex(path.name, r"^[a-z0-9_]+\.py$")
                self.assertRegex(path.read_bytes().decode("ascii"), r"^[ -~\n]*$")
                self.assertIsNone(WORDS.search(path.read_text()))

    def test_size(self):
        for path in sources():
            rows = path.read_text().splitlines()
            with self.subTest(file=path.name):
                self.assertLessEqual(len(rows), 400)
                self.assertLessEqual(max(len(row) for row in rows), 120)
        for where, node in each(ast.FunctionDef):
            self.assertLessEqual(node.end_lineno - node.lineno + 1, 40, where)

    def test_imports(self):
        for where, node in each((ast.Import, ast.ImportFrom)):
            self.assertIsInstance(node, ast.ImportFrom, where)
            self.assertEqual(node.level, 0, where)
            self.assertIn(node.module, own_modules(), where)
            self.assertNotIn("*", [alias.name for alias in node.names], where)

    def test_statements(self):
        for where, node in each(ast.stmt):
            self.assertIn(type(node).__name__, STATEMENTS, where)
            self.assertFalse(isinstance(node, (ast.For, ast.While)) and node.orelse, where)
            self.assertFalse(isinstance(node, ast.Try) and node.finalbody, where)
            self.assertFalse(isinstance(node, ast.Assign) and len(node.targets) > 1, where)
            self.assertFalse(isinstance(node, (ast.FunctionDef, ast.ClassDef)) and node.decorator_list, where)

    def test_expressions(self):
        for where, node in each(ast.expr):
            self.assertIn(type(node).__name__, EXPRESSIONS, where)
            self.assertFalse(isinstance(node, ast.BinOp) and isinstance(node.op, (ast.Div, ast.MatMult)), where)
            self.assertFalse(isinstance(node, ast.Constant) and isinstance(node.value, (float, complex, bytes)), where)
            self.assertFalse(isinstance(node, ast.ListComp) and len(node.generators) > 1, where)

    def test_names(self):
        for path in sources():
            for name in bound_names(ast.parse(path.read_text())):
                with self.subTest(file=path.name, name=name):
                    self.assertNotIn(name, dir(builtins))
                    if name not in DUNDERS:
                        self.assertRegex(name, r"^[A-Za-z][A-Za-z0-9_]*$")
        for where, node in each(ast.Name):
            if node.id in dir(builtins):
                self.assertIn(node.id, BUILT_IN, where)

    def test_methods_of_pythons_own(self):
        not_allowed = set()
        for kind in (str, int, list, tuple, dict, set, frozenset, bytes):
            not_allowed.update(dir(kind))
        not_allowed.difference_update(METHODS, DUNDERS, ["add", "discard", "title"])
        for where, node in each(ast.Attribute):
            self.assertNotIn(node.attr, not_allowed, where)

    def test_texts(self):
        for where, node in each(ast.Constant):
            self.assertFalse(isinstance(node.value, str) and "%" in node.value, where)
        for where, node in each(ast.FormattedValue):
            self.assertIsInstance(node.value, ast.Name, where)
            self.assertIsNone(node.format_spec, where)

    def test_is_stands_beside_none_true_and_false(self):
        for where, node in each(ast.Compare):
            if any(isinstance(op, (ast.Is, ast.IsNot)) for op in node.ops):
                self.assertEqual(len(node.ops), 1, where)
                self.assertIsInstance(node.comparators[0], ast.Constant, where)
                self.assertIn(node.comparators[0].value, (None, True, False), where)

    def test_handlers(self):
        for where, node in each(ast.ExceptHandler):
            self.assertIsNotNone(node.type, where)
            kinds = node.type.elts if isinstance(node.type, ast.Tuple) else [node.type]
            names = [kind.id for kind in kinds]
            self.assertFalse({"Exception", "TypeError"} & set(names), where)

    def test_value_errors_are_taken_round_int_alone(self):
        for where, node in each(ast.Try):
            if any("ValueError" in ast.unparse(handler.type) for handler in node.handlers):
                calls = [part for row in node.body for part in ast.walk(row) if isinstance(part, ast.Call)]
                self.assertEqual([ast.unparse(call.func) for call in calls], ["int"], where)
                self.assertEqual(len(node.body), 1, where)

    def test_sets_are_not_kept(self):
        within = [call.args[0] for _, call in each(ast.Call) if ast.unparse(call.func) in ("sorted", "len")]
        placed = [ast.unparse(value) for value in within]
        for where, node in each(ast.Call):
            if ast.unparse(node.func) == "set":
                self.assertIn(ast.unparse(node), placed, where)
        self.assertEqual([where for where, _ in each(ast.Set)], [])

    def test_no_two_files_draw_from_one_another(self):
        drawn = {path.stem: set() for path in sources()}
        for where, node in each(ast.ImportFrom):
            drawn[where.split(".py:")[0]].add(node.module.rpartition(".")[2])
        while drawn:
            free = [stem for stem in drawn if not drawn[stem] & set(drawn)]
            self.assertTrue(free, drawn)
            drawn = {stem: below for stem, below in drawn.items() if stem not in free}


if __name__ == "__main__":
    unittest.main()
