"""Some of the rules of LANGUAGE.md: those that are easily seen in the signs or the tree of one file."""

import ast
import builtins
import pathlib
import re
import unittest

PACKAGE = pathlib.Path(__file__).resolve().parent.parent / "decidebook"
FILES = sorted(path for path in PACKAGE.iterdir() if path.name != "__pycache__")

OWN_NAMES = set("""len range enumerate zip min max sum abs sorted reversed int str bool list tuple dict set frozenset
isinstance ord repr any all divmod Exception ValueError KeyError IndexError LookupError ZeroDivisionError
ArithmeticError OverflowError RuntimeError NotImplementedError StopIteration""".split())

METHODS = set("""append clear copy count endswith extend find get index insert isalnum isalpha isdigit islower isspace
isupper items join keys ljust lower lstrip partition pop remove replace reverse rfind rjust rpartition rsplit rstrip
setdefault split splitlines startswith strip update upper values zfill bit_length""".split())

BARRED = re.compile(r"\b(type|typing|typing_extensions|enum|Enum|IntEnum|StrEnum|Flag|IntFlag|Generic|Protocol|ABC|"
                    r"ABCMeta|namedtuple|NamedTuple|TypedDict|TYPE_CHECKING|abstractmethod)\b|"
                    r"dataclass|overload|contextmanager")

STATEMENTS = (ast.Assign, ast.AugAssign, ast.If, ast.While, ast.For, ast.Return, ast.Break, ast.Continue, ast.Pass,
              ast.Raise, ast.Try, ast.Expr, ast.FunctionDef, ast.ClassDef, ast.ImportFrom)

BARRED_NODES = (ast.Set, ast.SetComp, ast.DictComp, ast.GeneratorExp, ast.NamedExpr, ast.Starred, ast.Div, ast.Await,
                ast.Yield, ast.YieldFrom, ast.AnnAssign)


def faults_of_text(text):
    rows = text.split("\n")
    if not re.fullmatch(r"[ -~\n]*", text):
        yield "L14: a sign that is not allowed"
    if len(rows) > 401 or max(len(row) for row in rows) > 120:
        yield "L10: too many rows, or one that is too long"
    if BARRED.search(text):
        yield "L17: a word that stands nowhere"


def faults_of_statement(node):
    if not isinstance(node, STATEMENTS):
        yield "L6: this statement"
    if isinstance(node, ast.FunctionDef):
        plain = node.args
        if node.end_lineno - node.lineno >= 40:
            yield "L10: a function of more than 40 rows"
        if plain.vararg or plain.kwarg or plain.kwonlyargs or plain.posonlyargs or node.decorator_list:
            yield "L4: parameters that are not plain, or a decorator"
    if isinstance(node, ast.ImportFrom):
        if node.level or not (node.module or "").startswith("decidebook.") or any(a.asname for a in node.names):
            yield "L2: this import"
    if isinstance(node, ast.Assign) and (len(node.targets) > 1 or isinstance(node.targets[0], ast.Tuple)):
        yield "L6: more than one target"
    if isinstance(node, (ast.For, ast.While)) and node.orelse:
        yield "L6: else behind a loop"


def own_attributes():
    """The methods of the package's own classes, and the values that its objects are given."""
    for path in FILES:
        for node in ast.walk(ast.parse(path.read_text("ascii"))):
            if isinstance(node, ast.ClassDef):
                yield from (inner.name for inner in node.body if isinstance(inner, ast.FunctionDef))
            if isinstance(node, ast.Attribute) and isinstance(node.ctx, ast.Store):
                yield node.attr


def faults_of_name(node, known):
    if isinstance(node, ast.Name):
        if isinstance(node.ctx, ast.Store) and hasattr(builtins, node.id):
            yield "L15: a local that is called like a name of Python's own"
        if hasattr(builtins, node.id) and node.id not in OWN_NAMES:
            yield "L8: this built-in name"
        if node.id.startswith("_") or not node.id.isascii():
            yield "L12: this name"
    if isinstance(node, ast.arg) and (hasattr(builtins, node.arg) or node.arg in known):
        yield "L15: this parameter"
    if isinstance(node, ast.Attribute) and node.attr not in METHODS | set(own_attributes()):
        yield "L25: this method"


def faults_of_value(node):
    if isinstance(node, BARRED_NODES):
        yield "L7: this expression"
    if isinstance(node, ast.Constant) and isinstance(node.value, (float, bytes, complex)):
        yield "L7: this value"
    if isinstance(node, ast.Constant) and isinstance(node.value, str) and "%" in node.value:
        yield "L27: this sign within a text"
    if isinstance(node, ast.Compare) and any(isinstance(way, (ast.Is, ast.IsNot)) for way in node.ops):
        beside = [node.left] + node.comparators
        if not any(isinstance(side, ast.Constant) and side.value in (None, True, False) for side in beside):
            yield "L20: is beside another value"
    if isinstance(node, ast.BinOp) and isinstance(node.op, ast.Pow) and not isinstance(node.right, ast.Constant):
        yield "L27: a power whose exponent isn't written"


def faults_of(text):
    yield from faults_of_text(text)
    tree = ast.parse(text)
    drawn = [alias.name for node in ast.walk(tree) if isinstance(node, ast.ImportFrom) for alias in node.names]
    known = drawn + [node.name for node in ast.walk(tree) if isinstance(node, ast.ClassDef)]
    for node in ast.walk(tree):
        found = list(faults_of_statement(node)) if isinstance(node, ast.stmt) else []
        found += list(faults_of_name(node, known)) + list(faults_of_value(node))
        for fault in found:
            yield f"{fault}, row {getattr(node, 'lineno', '?')}"


class Language(unittest.TestCase):

    def test_only_plain_files_lie_in_the_package(self):
        for path in FILES:
            self.assertRegex(path.name, r"\A(__init__|[a-z][a-z0-9_]*)\.py\Z")
        self.assertIn("__init__.py", [path.name for path in FILES])

    def test_every_file_keeps_to_the_rules(self):
        for path in FILES:
            with self.subTest(path.name):
                self.assertEqual(list(faults_of(path.read_bytes().decode("ascii"))), [])

    def test_the_faults_are_seen(self):
        for text in ("import os\n", "from .errors import NoRow\n", "x = 1 / 2\n", "x = y = 1\n", "x = 1.5\n",
                     "def f(*a): pass\n", "def f(list): pass\n", "x = {1}\n", "x = eval\n", "with x: pass\n",
                     "x = y is z\n", "# type\n", "x = y.sort()\n",
                     "x = '%'\n", "x = 2 ** y\n", "x = 1\t\n", "x = (a for a in b)\n"):
            with self.subTest(text):
                self.assertNotEqual(list(faults_of(text)), [])


if __name__ == "__main__":
    unittest.main()
