"""Some of the rules of LANGUAGE.md: those that are easily seen in the signs or the tree of one file."""

import ast
import builtins
import pathlib
import re
import unittest

PACKAGE = pathlib.Path(__file__).resolve().parent.parent / "decidebook"
FILES = sorted(path for path in PACKAGE.iterdir() if path.name != "__pycache__")

OWN_NAMES = set("""len range enumerate zip min max sum abs sorted reversed int str bool list tuple dict set frozenset
isinstance ord repr any all divmod Exception ValueError KeyError IndexError LookupError ZeroDivisionError
ArithmeticError OverflowError RuntimeError NotImplementedError StopIteration""".split())

METHODS = set("""append clear copy count endswith extend find get index insert isalnum isalpha isdigit islower isspace
isupper items join keys ljust lower lstrip partition pop remove replace reverse rfind rjust rpartition rsplit rstrip
setdefault split splitlines startswith strip update upper values zfill bit_length""".split())

BARRED = re.compile(r"\b(type|typing|typing_extensions|enum|Enum|IntEnum|StrEnum|Flag|IntFlag|Generic|Protocol|ABC|"
                    r"ABCMeta|namedtuple|NamedTuple|TypedDict|TYPE_CHECKING|abstractmethod)\b|"
                    r"dataclass|overload|contextmanager")

OWN_UNDERSCORED = ("__init__", "__eq__", "__repr__", "__str__", "__len__")

PYTHONS_OWN = {name for kind in (str, int, list, dict, set, tuple, bytes) for name in dir(kind) if name[0] != "_"}

STATEMENTS = (ast.Assign, ast.AugAssign, ast.If, ast.While, ast.For, ast.Return, ast.Break, ast.Continue, ast.Pass,
              ast.Raise, ast.Try, ast.Expr, ast.FunctionDef, ast.ClassDef, ast.ImportFrom)

BARRED_NODES = (ast.Set, ast.SetComp, ast.DictComp, ast.GeneratorExp, ast.NamedExpr, ast.Starred, ast.Div, ast.Await,
                ast.Yield, ast.YieldFrom, ast.AnnAssign)


WALKED = ("zip", "enumerate", "reversed", "range", "items", "keys", "values")

TAKING = ("list", "tuple", "dict", "sorted", "sum", "any", "all", "enumerate", "zip")

KEYWORDS = {"sorted": ("key", "reverse"), "min": ("key", "default"), "max": ("key", "default"), "sum": ("start",),
            "enumerate": ("start",), "zip": ("strict",)}


def faults_of_text(text):
    rows = text.split("\n")
    if not re.fullmatch(r"[ -~\n]*", text):
        yield "L14: a sign that is not allowed"
    if len(rows) > 401 or max(len(row) for row in rows) > 120:
        yield "L10: too many rows, or one that is too long"
    if BARRED.search(text):
        yield "L17: a word that stands nowhere"


def faults_of_statement(node):
    if not isinstance(node, STATEMENTS):
        yield "L6: this statement"
    if isinstance(node, ast.FunctionDef):
        plain = node.args
        if node.end_lineno - node.lineno >= 40:
            yield "L10: a function of more than 40 rows"
        if plain.vararg or plain.kwarg or plain.kwonlyargs or plain.posonlyargs or node.decorator_list:
            yield "L4: parameters that are not plain, or a decorator"
    if isinstance(node, ast.ImportFrom):
        if node.level or not (node.module or "").startswith("decidebook.") or any(a.asname for a in node.names):
            yield "L2: this import"
    if isinstance(node, ast.Assign) and (len(node.targets) > 1 or isinstance(node.targets[0], ast.Tuple)):
        yield "L6: more than one target"
    if isinstance(node, (ast.For, ast.While)) and node.orelse:
        yield "L6: else behind a loop"


def faults_of_class(node):
    if len(node.bases) > 1 or node.keywords or node.decorator_list:
        yield "L5: more than one base, or a decorator"
    if not all(isinstance(inner, (ast.FunctionDef, ast.Pass)) for inner in node.body):
        yield "L5: something other than methods in a class"
    names = [inner.name for inner in node.body if isinstance(inner, ast.FunctionDef)]
    if len(set(names)) < len(names):
        yield "L18: a method that stands twice"
    if any(name.startswith("_") and name not in OWN_UNDERSCORED for name in names):
        yield "L5: this method"


def own_methods(trees):
    classes = [node for tree in trees for node in ast.walk(tree) if isinstance(node, ast.ClassDef)]
    return {inner.name for node in classes for inner in node.body if isinstance(inner, ast.FunctionDef)}


def own_values(trees):
    """The names of the values that objects are given."""
    found = [node for tree in trees for node in ast.walk(tree) if isinstance(node, ast.Attribute)]
    return {node.attr for node in found if isinstance(node.ctx, ast.Store)}


TREES = [ast.parse(path.read_text("ascii")) for path in FILES]
OWN_ATTRIBUTES = own_methods(TREES) | own_values(TREES)


def faults_of_name(node, known):
    if isinstance(node, ast.Name):
        if isinstance(node.ctx, ast.Store) and (hasattr(builtins, node.id) or node.id in known):
            yield "L15: a local that is called like a name of Python's own, a class or an import"
        if hasattr(builtins, node.id) and node.id not in OWN_NAMES:
            yield "L8: this built-in name"
        if node.id.startswith("_") or not node.id.isascii():
            yield "L12: this name"
    if isinstance(node, ast.arg) and (hasattr(builtins, node.arg) or node.arg in known):
        yield "L15: this parameter"
    if isinstance(node, ast.Attribute) and node.attr not in METHODS | OWN_ATTRIBUTES:
        yield "L25: this method"


def faults_of_value(node):
    if isinstance(node, BARRED_NODES):
        yield "L7: this expression"
    if isinstance(node, ast.Constant) and isinstance(node.value, (float, bytes, complex)):
        yield "L7: this value"
    if isinstance(node, ast.Constant) and isinstance(node.value, str) and "%" in node.value:
        yield "L27: this sign within a text"
    if isinstance(node, ast.Compare) and any(isinstance(way, (ast.Is, ast.IsNot)) for way in node.ops):
        beside = [node.left] + node.comparators
        if not any(isinstance(side, ast.Constant) and side.value in (None, True, False) for side in beside):
            yield "L20: is beside another value"
    if isinstance(node, ast.BinOp) and isinstance(node.op, ast.Pow) and not isinstance(node.right, ast.Constant):
        yield "L27: a power whose exponent isn't written"


def called(node):
    """The name that is called, or the method's, or nothing."""
    if not isinstance(node, ast.Call):
        return ""
    return node.func.id if isinstance(node.func, ast.Name) else getattr(node.func, "attr", "")


def is_walked(node, above):
    if isinstance(above, (ast.For, ast.comprehension)):
        return above.iter is node
    if called(above) in ("min", "max"):
        return above.args == [node]
    return called(above) in TAKING and above.args[0] is node


def faults_of_call(node, above):
    name = called(node)
    if name in WALKED and not is_walked(node, above):
        yield "L23: what isn't walked on the spot"
    if name in ("set", "frozenset"):
        if not isinstance(above, (ast.Compare, ast.BinOp)) and called(above) not in ("sorted", "len"):
            yield "L24: a set that is kept or walked"
    if hasattr(builtins, name) or name in METHODS - OWN_ATTRIBUTES:
        for keyword in node.keywords:
            if keyword.arg not in KEYWORDS.get(name, ()):
                yield "L22: this keyword"


def faults_of_comprehension(node):
    if isinstance(node, ast.ListComp) and (len(node.generators) > 1 or len(node.generators[0].ifs) > 1):
        yield "L7: more than one for or if"


def faults_of(text):
    yield from faults_of_text(text)
    tree = ast.parse(text)
    drawn = [alias.name for node in ast.walk(tree) if isinstance(node, ast.ImportFrom) for alias in node.names]
    known = drawn + [node.name for node in ast.walk(tree) if isinstance(node, ast.ClassDef)]
    above = {node: outer for outer in ast.walk(tree) for node in ast.iter_child_nodes(outer)}
    for node in ast.walk(tree):
        found = list(faults_of_statement(node)) if isinstance(node, ast.stmt) else []
        found += list(faults_of_class(node)) if isinstance(node, ast.ClassDef) else []
        found += list(faults_of_call(node, above[node])) if isinstance(node, ast.Call) else []
        found += list(faults_of_name(node, known)) + list(faults_of_value(node)) + list(faults_of_comprehension(node))
        for fault in found:
            yield f"{fault}, row {getattr(node, 'lineno', '?')}"


class Language(unittest.TestCase):

    def test_only_plain_files_lie_in_the_package(self):
        for path in FILES:
            self.assertRegex(path.name, r"\A(__init__|[a-z][a-z0-9_]*)\.py\Z")
        self.assertIn("__init__.py", [path.name for path in FILES])

    def test_every_file_keeps_to_the_rules(self):
        for path in FILES:
            with self.subTest(path.name):
                self.assertEqual(list(faults_of(path.read_bytes().decode("ascii"))), [])

    def test_methods_and_values_of_the_packages_own(self):
        self.assertEqual(own_methods(TREES) & own_values(TREES), set())
        self.assertEqual(OWN_ATTRIBUTES & PYTHONS_OWN, set())

    def test_no_two_files_draw_from_one_another(self):
        draws = {path.stem: {node.module.split(".")[1] for node in tree.body if isinstance(node, ast.ImportFrom)}
                 for path, tree in zip(FILES, TREES)}
        while draws:
            ends = {name for name in draws if not draws[name] & set(draws)}
            self.assertNotEqual(ends, set(), draws)
            draws = {name: draws[name] for name in draws if name not in ends}

    def test_the_faults_are_seen(self):
        for text in ("import os\n", "from .errors import NoRow\n", "x = 1 / 2\n", "x = y = 1\n", "x = 1.5\n",
                     "def f(*a): pass\n", "def f(list): pass\n", "x = {1}\n", "x = eval\n", "with x: pass\n",
                     "x = y is z\n", "# type\n", "x = y.sort()\n", "class X(Y, Z): pass\n", "class X: y = 1\n",
                     "class X:\n    def __hash__(self): pass\n", "class X: pass\ndef f(): X = 1\n",
                     "x = '%'\n", "x = 2 ** y\n", "x = 1\t\n", "x = (a for a in b)\n", "x = range(3)\n",
                     "x = min(range(3), 4)\n", "x = f(zip(y, z))\n", "x = list(y, reversed(z))\n", "x = y.items()\n",
                     "x = set(y)\n", "for x in set(y): pass\n", "x = int(y, base=2)\n", "x = y.split(sep='a')\n",
                     "x = [a for b in c for a in b]\n", "x = [a for a in b if a if c]\n"):
            with self.subTest(text):
                self.assertNotEqual(list(faults_of(text)), [])


if __name__ == "__main__":
    unittest.main()
