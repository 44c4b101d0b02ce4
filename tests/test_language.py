"""The form of the package's files: the rules of the language that a plain look at each file can tell."""

import ast
import builtins
import re
import unittest
from pathlib import Path

PACKAGE = Path(__file__).resolve().parent.parent / "downstair"
FILES = sorted(PACKAGE.rglob("*.py"))

NODES = set("""
    Module Expr Constant Import ImportFrom alias FunctionDef arguments arg Return ClassDef Pass Assign AugAssign
    If While For Break Continue Raise Try ExceptHandler Lambda Name Load Store Attribute Subscript Slice Call keyword
    Tuple List Dict Set ListComp comprehension JoinedStr FormattedValue BinOp UnaryOp BoolOp Compare IfExp
    Add Sub Mult FloorDiv Mod Pow BitAnd BitOr BitXor LShift RShift Invert Not USub UAdd And Or
    Eq NotEq Lt LtE Gt GtE Is IsNot In NotIn
""".split())
OWN_NAMES = set("""
    len range enumerate zip min max sum abs sorted reversed int str bool list tuple dict set frozenset isinstance
    ord repr any all divmod Exception ValueError TypeError KeyError IndexError LookupError ZeroDivisionError
    ArithmeticError OverflowError RuntimeError NotImplementedError AttributeError StopIteration
""".split())
OWN_METHODS = set("""
    append clear copy count endswith extend find get index insert isalnum isalpha isdigit islower isspace isupper
    items join keys ljust lower lstrip partition pop remove replace reverse rfind rjust rpartition rsplit rstrip
    setdefault split splitlines startswith strip update upper values zfill bit_length
""".split())
NO_WORDS = re.compile(
    r"\b(type|typing|typing_extensions|enum|Enum|IntEnum|StrEnum|Flag|IntFlag|Generic|Protocol|ABC|ABCMeta|namedtuple"
    r"|NamedTuple|TypedDict|TYPE_CHECKING|abstractmethod)\b|dataclass|overload|contextmanager"
)
PLAIN_NAME = re.compile(r"[A-Za-z][A-Za-z0-9_]*\Z")


def bound_names(tree):
    for node in ast.walk(tree):
        if isinstance(node, (ast.FunctionDef, ast.ClassDef)):
            yield node.name
        elif isinstance(node, ast.arg):
            yield node.arg
        elif isinstance(node, ast.Name) and isinstance(node.ctx, ast.Store):
            yield node.id


def top_names(tree):
    """The names that a file itself gives a meaning at its top."""
    for node in tree.body:
        if isinstance(node, (ast.FunctionDef, ast.ClassDef)):
            yield node.name
        elif isinstance(node, ast.Assign):
            yield node.targets[0].id


def bodies(tree):
    for node in ast.walk(tree):
        if isinstance(getattr(node, "body", None), list):
            yield node, node.body


class LanguageTest(unittest.TestCase):
    def on_each_file(self, check):
        for path in FILES:
            with self.subTest(file=path.name):
                text = path.read_text(encoding="utf-8")
                check(text, ast.parse(text))

    def test_the_package_holds_python_files_alone(self):
        self.assertIn(PACKAGE / "__init__.py", FILES)
        for path in PACKAGE.rglob("*"):
            if "__pycache__" not in path.parts:
                self.assertRegex(path.name, r"\A(__init__|[a-z][a-z0-9_]*)\.py\Z")

    def test_signs_and_sizes(self):
        self.on_each_file(self.check_signs_and_sizes)

    def check_signs_and_sizes(self, text, tree):
        self.assertRegex(text, r"\A[ -~\n]*\Z")
        self.assertIsNone(NO_WORDS.search(text))
        lines = text.split("\n")
        self.assertLessEqual(len(lines), 400)
        self.assertLessEqual(max(len(line) for line in lines), 120)
        for node in ast.walk(tree):
            if isinstance(node, ast.FunctionDef):
                self.assertLessEqual(node.end_lineno - node.lineno + 1, 40, node.name)

    def test_statements_and_values(self):
        self.on_each_file(self.check_statements)
        self.on_each_file(self.check_values)

    def check_statements(self, text, tree):
        for node in ast.walk(tree):
            self.assertIn(type(node).__name__, NODES, getattr(node, "lineno", None))
            if isinstance(node, ast.Assign):
                self.assertEqual(len(node.targets), 1, node.lineno)
        for owner, body in bodies(tree):
            # The module's docstring is the one text that may stand by itself.
            start = 1 if owner is tree and ast.get_docstring(tree) is not None else 0
            for statement in body[start:]:
                if isinstance(statement, ast.Expr):
                    self.assertIsInstance(statement.value, ast.Call, statement.lineno)

    def check_values(self, text, tree):
        for node in ast.walk(tree):
            if isinstance(node, ast.Constant):
                self.assertIn(type(node.value), (int, str, bool, type(None)), node.lineno)
                self.assertNotIn("%", str(node.value), node.lineno)
            if isinstance(node, ast.BinOp) and isinstance(node.op, ast.Pow):
                self.assertIn(ast.literal_eval(node.right), range(65), node.lineno)

    def test_imports(self):
        self.on_each_file(self.check_imports)

    def check_imports(self, text, tree):
        for node in ast.walk(tree):
            self.assertNotIsInstance(node, ast.Import)
            if isinstance(node, ast.ImportFrom):
                self.assertEqual(node.level, 0)
                self.assertRegex(node.module, r"\Adownstair\.[a-z_]+\Z")
                source = PACKAGE / (node.module.split(".")[1] + ".py")
                defined = set(top_names(ast.parse(source.read_text(encoding="utf-8"))))
                self.assertLessEqual({alias.name for alias in node.names}, defined)

    def test_no_two_files_draw_from_one_another(self):
        drawn = {}
        for path in FILES:
            tree = ast.parse(path.read_text(encoding="utf-8"))
            drawn[path.stem] = {
                node.module.split(".")[1] for node in ast.walk(tree) if isinstance(node, ast.ImportFrom)
            }
        while drawn:
            # Files that draw from none of those left: without one, some go round in a ring.
            free = [name for name, sources in drawn.items() if not sources & set(drawn)]
            self.assertNotEqual(free, [], drawn)
            for name in free:
                drawn.pop(name)

    def test_nothing_is_kept_at_the_top(self):
        self.on_each_file(self.check_top)

    def check_top(self, text, tree):
        names = list(top_names(tree))
        self.assertEqual(len(names), len(set(names)))
        for node in tree.body:
            if isinstance(node, ast.Assign):
                # Whole numbers, texts and tuples of them can't be changed by any call.
                self.assertIsInstance(ast.literal_eval(node.value), (int, str, tuple), node.lineno)

    def test_names(self):
        self.on_each_file(self.check_names)

    def check_names(self, text, tree):
        for name in bound_names(tree):
            self.assertRegex(name, PLAIN_NAME)
            self.assertFalse(hasattr(builtins, name), name)
        for node in ast.walk(tree):
            if isinstance(node, ast.Name) and hasattr(builtins, node.id):
                self.assertIn(node.id, OWN_NAMES, node.lineno)
            if isinstance(node, ast.Attribute):
                self.assertIn(node.attr, OWN_METHODS, node.lineno)
