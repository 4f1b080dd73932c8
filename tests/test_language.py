"""Some rules of LANGUAGE.md, in part: L1, L2, L4 to L8, L10, L12, L14, L15, L17 and L25. The rest is for the reader."""

import ast
import builtins
import pathlib
import re
import unittest

PACKAGE = pathlib.Path(__file__).resolve().parent.parent / "letterform"

NODES = """Module FunctionDef ClassDef arguments arg Return Assign AugAssign For While If Raise Try ExceptHandler
ImportFrom alias Expr Pass Break Continue BoolOp BinOp UnaryOp IfExp Lambda Dict List Tuple ListComp comprehension
Compare Call FormattedValue JoinedStr Constant Attribute Subscript Slice Name Load Store And Or Not Add Sub Mult
FloorDiv Mod Pow BitAnd BitOr BitXor LShift RShift Invert USub Eq NotEq Lt LtE Gt GtE Is IsNot In NotIn keyword"""

OWN_NAMES = """len range enumerate zip min max sum abs sorted reversed int str bool list tuple dict set frozenset
isinstance ord repr any all divmod Exception ValueError TypeError KeyError IndexError LookupError ZeroDivisionError
ArithmeticError OverflowError RuntimeError NotImplementedError AttributeError StopIteration"""

METHODS = """append clear copy count endswith extend find get index insert isalnum isalpha isdigit islower isspace
isupper items join keys ljust lower lstrip partition pop remove replace reverse rfind rjust rpartition rsplit rstrip
setdefault split splitlines startswith strip update upper values zfill bit_length"""

WORDS = r"""\b(type|typing|typing_extensions|enum|Enum|IntEnum|StrEnum|Flag|IntFlag|Generic|Protocol|ABC|ABCMeta
|namedtuple|NamedTuple|TypedDict|TYPE_CHECKING|abstractmethod)\b|dataclass|overload|contextmanager""".replace("\n", "")


def faults_of_text(source):
    lines = source.split("\n")
    found = [f"L10 line {k}" for k, line in enumerate(lines, 1) if len(line) > 120]
    if len(lines) > 401:
        found.append("L10 file")
    if re.search(r"[^ -~\n]", source):
        found.append("L14 sign")
    return found + [f"L17 {match.group()}" for match in re.finditer(WORDS, source)]


def faults_of_node(node, methods):
    kind = type(node).__name__
    if kind not in NODES.split():
        return [f"L6/L7 {kind}"]
    if isinstance(node, ast.ImportFrom) and (node.level or not node.module.startswith("letterform.")):
        return ["L2 import"]
    if isinstance(node, ast.FunctionDef):
        return faults_of_function(node)
    if isinstance(node, ast.ClassDef) and (node.decorator_list or len(node.bases) > 1):
        return ["L5 class"]
    if isinstance(node, ast.Assign) and (len(node.targets) > 1 or isinstance(node.targets[0], (ast.Tuple, ast.List))):
        return ["L6 targets"]
    if isinstance(node, ast.Constant) and not isinstance(node.value, (int, str, type(None))):
        return ["L7 constant"]
    if isinstance(node, ast.Name):
        return faults_of_name(node)
    if isinstance(node, ast.Call) and isinstance(node.func, ast.Attribute):
        if node.func.attr not in METHODS.split() + methods + ["__init__"]:
            return [f"L25 {node.func.attr}"]
    return []


def faults_of_function(node):
    found = []
    if node.end_lineno - node.lineno >= 40:
        found.append(f"L10 {node.name}")
    if node.decorator_list or node.args.vararg or node.args.kwarg or node.args.kwonlyargs or node.args.posonlyargs:
        found.append(f"L4 {node.name}")
    if node.name.startswith("_") and node.name not in ("__init__", "__eq__", "__repr__", "__str__", "__len__"):
        found.append(f"L5 {node.name}")
    return found + [f"L15 {arg.arg}" for arg in node.args.args if hasattr(builtins, arg.arg)]


def faults_of_name(node):
    if node.id.startswith("_"):
        return [f"L12 {node.id}"]
    if hasattr(builtins, node.id) and (isinstance(node.ctx, ast.Store) or node.id not in OWN_NAMES.split()):
        return [f"L8 {node.id}"]
    return []


def faults(source):
    nodes = list(ast.walk(ast.parse(source)))
    methods = [node.name for node in nodes if isinstance(node, ast.FunctionDef)]
    return faults_of_text(source) + [fault for node in nodes for fault in faults_of_node(node, methods)]


class Language(unittest.TestCase):
    def test_the_package_holds_plain_files_alone(self):
        for path in PACKAGE.rglob("*"):
            if "__pycache__" not in path.parts:
                self.assertRegex(path.name, r"^[a-z0-9_]+\.py$")

    def test_the_files_keep_to_the_rules(self):
        paths = sorted(PACKAGE.glob("*.py"))
        self.assertTrue(paths)
        for path in paths:
            with self.subTest(file=path.name):
                self.assertEqual(faults(path.read_text(encoding="utf-8")), [])

    def test_a_broken_rule_is_seen(self):
        sources = ("import os\n", "from .errors import BadForm\n", "a = 1.5\n", "a = b = 1\n", "a, b = 1, 2\n",
                   "def f(*xs):\n    pass\n", "def f(id):\n    pass\n", "def f(x):\n    return open(x)\n",
                   "def f(x):\n    return {y for y in x}\n", "def f(x):\n    return x.title()\n", "a = '\u00e4'\n",
                   "a = 1\t\n", "# a type\n", "a = '" + "x" * 120 + "'\n", "a = 1\n" * 401, "_a = 1\n",
                   "def f():\n" + "    pass\n" * 40, "class A:\n    def __hash__(self):\n        return 1\n",
                   "def f(x):\n    assert x\n", "def f(x):\n    with x:\n        pass\n", "def f(x):\n    return x / 2\n")
        for source in sources:
            with self.subTest(source=source[:60]):
                self.assertNotEqual(faults(source), [])


if __name__ == "__main__":
    unittest.main()
