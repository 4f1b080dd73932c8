"""The rules of LANGUAGE.md, most of them in part. L9, L11, L13, L19 and L28 are for the reader."""

import ast
import builtins
import pathlib
import re
import unittest

PACKAGE = pathlib.Path(__file__).resolve().parent.parent / "letterform"

NODES = """Module FunctionDef ClassDef arguments arg Return Assign AugAssign For While If Raise Try ExceptHandler
ImportFrom alias Expr Pass Break Continue BoolOp BinOp UnaryOp IfExp Lambda Dict List Tuple ListComp comprehension
Compare Call FormattedValue JoinedStr Constant Attribute Subscript Slice Name Load Store And Or Not Add Sub Mult
FloorDiv Mod Pow BitAnd BitOr BitXor LShift RShift Invert USub Eq NotEq Lt LtE Gt GtE Is IsNot In NotIn keyword"""

OWN_NAMES = """len range enumerate zip min max sum abs sorted reversed int str bool list tuple dict set frozenset
isinstance ord repr any all divmod Exception ValueError TypeError KeyError IndexError LookupError ZeroDivisionError
ArithmeticError OverflowError RuntimeError NotImplementedError AttributeError StopIteration"""

METHODS = """append clear copy count endswith extend find get index insert isalnum isalpha isdigit islower isspace
isupper items join keys ljust lower lstrip partition pop remove replace reverse rfind rjust rpartition rsplit rstrip
setdefault split splitlines startswith strip update upper values zfill bit_length"""

# Names that no value of an object may have: methods of Python's own values, but those that L26 lets through.
TAKEN = sorted({name for kind in (str, int, list, tuple, dict, set, bytes) for name in dir(kind)}
               - set("count index title find get join lower upper split strip copy add".split())) + ["args"]

WORDS = r"""\b(type|typing|typing_extensions|enum|Enum|IntEnum|StrEnum|Flag|IntFlag|Generic|Protocol|ABC|ABCMeta
|namedtuple|NamedTuple|TypedDict|TYPE_CHECKING|abstractmethod)\b|dataclass|overload|contextmanager""".replace("\n", "")


def faults_of_text(source):
    lines = source.split("\n")
    found = [f"L10 line {k}" for k, line in enumerate(lines, 1) if len(line) > 120]
    if len(lines) > 401:
        found.append("L10 file")
    if re.search(r"[^ -~\n]", source):
        found.append("L14 sign")
    return found + [f"L17 {match.group()}" for match in re.finditer(WORDS, source)]


def faults_of_node(node, methods):
    kind = type(node).__name__
    if kind not in NODES.split():
        return [f"L6/L7 {kind}"]
    if isinstance(node, ast.ImportFrom) and (node.level or not node.module.startswith("letterform.")):
        return ["L2 import"]
    if isinstance(node, ast.FunctionDef):
        return faults_of_function(node)
    if isinstance(node, ast.ClassDef) and (node.decorator_list or len(node.bases) > 1):
        return ["L5 class"]
    if isinstance(node, ast.Assign) and (len(node.targets) > 1 or isinstance(node.targets[0], (ast.Tuple, ast.List))):
        return ["L6 targets"]
    if isinstance(node, ast.Constant) and not isinstance(node.value, (int, str, type(None))):
        return ["L7 constant"]
    if isinstance(node, ast.Name):
        return faults_of_name(node)
    if isinstance(node, ast.Call) and isinstance(node.func, ast.Attribute):
        if node.func.attr not in METHODS.split() + methods + ["__init__"]:
            return [f"L25 {node.func.attr}"]
    return []


def faults_of_function(node):
    found = []
    if node.end_lineno - node.lineno >= 40:
        found.append(f"L10 {node.name}")
    if node.decorator_list or node.args.vararg or node.args.kwarg or node.args.kwonlyargs or node.args.posonlyargs:
        found.append(f"L4 {node.name}")
    if node.name.startswith("_") and node.name not in ("__init__", "__eq__", "__repr__", "__str__", "__len__"):
        found.append(f"L5 {node.name}")
    return found + [f"L15 {arg.arg}" for arg in node.args.args if hasattr(builtins, arg.arg)]


def faults_of_name(node):
    if node.id.startswith("_"):
        return [f"L12 {node.id}"]
    if hasattr(builtins, node.id) and (isinstance(node.ctx, ast.Store) or node.id not in OWN_NAMES.split()):
        return [f"L8 {node.id}"]
    return []


def is_call(node, names):
    return isinstance(node, ast.Call) and isinstance(node.func, ast.Name) and node.func.id in names


def is_plain(node):
    """A value that may stand at a file's top: no list or dict within another."""
    if isinstance(node, (ast.List, ast.Tuple)):
        return all(is_plain(one) and not isinstance(one, (ast.List, ast.Dict)) for one in node.elts)
    if isinstance(node, ast.Dict):
        return all(is_plain(one) and not isinstance(one, (ast.List, ast.Dict)) for one in node.keys + node.values)
    return isinstance(node, (ast.Constant, ast.Name))


def faults_of_tops(tree):
    found = []
    bound = []
    for node in tree.body:
        if isinstance(node, (ast.FunctionDef, ast.ClassDef)):
            bound.append(node.name)
        elif isinstance(node, ast.ImportFrom):
            bound += [alias.asname or alias.name for alias in node.names]
        elif isinstance(node, ast.Assign) and isinstance(node.targets[0], ast.Name) and is_plain(node.value):
            bound.append(node.targets[0].id)
        elif not (isinstance(node, ast.Expr) and isinstance(node.value, ast.Constant)):
            found.append(f"L3 line {node.lineno}")
    found += [f"L15 {name}" for name in sorted(set(bound)) if bound.count(name) > 1]
    for node in ast.walk(tree):
        if isinstance(node, ast.ClassDef):
            found += [f"L5 line {one.lineno}" for one in node.body if not isinstance(one, (ast.FunctionDef, ast.Expr))]
        if isinstance(node, ast.Name) and isinstance(node.ctx, ast.Store) and node not in tops_of(tree):
            found += [f"L15 {node.id}"] if node.id in bound else []
        if isinstance(node, ast.arg):
            found += [f"L15 {node.arg}"] if node.arg in bound else []
            found += [f"L21 {node.arg}"] if node.annotation else []
    return found


def tops_of(tree):
    return [target for node in tree.body if isinstance(node, ast.Assign) for target in node.targets]


def faults_by_parent(node, parent):
    """Faults that hang on where a thing stands."""
    walked = is_call(node, ("zip", "enumerate", "reversed", "range"))
    if isinstance(node, ast.Call) and isinstance(node.func, ast.Attribute):
        walked = node.func.attr in ("items", "keys", "values")
    if walked and not is_walked(node, parent):
        return [f"L23 line {node.lineno}"]
    if is_call(node, ("set", "frozenset")) or isinstance(node, ast.Set):
        if not is_call(parent, ("sorted", "len")) and not isinstance(parent, (ast.Compare, ast.BinOp)):
            return [f"L24 line {node.lineno}"]
    if isinstance(node, ast.keyword) and not is_keyword(node.arg, parent):
        return [f"L22 {node.arg}"]
    if isinstance(node, ast.Name) and node.id in OWN_NAMES.split() and not is_used_in_place(node, parent):
        return [f"L22 {node.id}"]
    return []


def is_walked(node, parent):
    if isinstance(parent, (ast.For, ast.comprehension)):
        return parent.iter is node
    if is_call(parent, ("list", "tuple", "dict", "sorted", "sum", "any", "all", "enumerate", "zip", "min", "max")):
        return parent.args[0] is node
    return isinstance(parent, ast.Call) and ast.unparse(parent.func).endswith("'.join")


def is_keyword(word, call):
    places = {"key": ("sorted", "min", "max"), "default": ("min", "max"), "reverse": ("sorted",),
              "start": ("sum", "enumerate"), "strict": ("zip",)}
    if not isinstance(call.func, ast.Name) or call.func.id not in OWN_NAMES.split():
        return not isinstance(call.func, ast.Attribute)
    return word in places and call.func.id in places[word]


def is_used_in_place(node, parent):
    if isinstance(parent, ast.Call):
        return parent.func is node or is_call(parent, ("isinstance",))
    return isinstance(parent, (ast.ClassDef, ast.ExceptHandler, ast.Tuple, ast.keyword)) or (
        isinstance(parent, ast.Attribute) and parent.attr == "__init__")


def faults_of_values(node):
    if isinstance(node, ast.Compare) and any(isinstance(sort, (ast.Is, ast.IsNot)) for sort in node.ops):
        if not isinstance(node.comparators[0], ast.Constant) or isinstance(node.comparators[0].value, str):
            return [f"L20 line {node.lineno}"]
    if isinstance(node, ast.FunctionDef) and node.returns:
        return [f"L21 {node.name}"]
    if isinstance(node, ast.Attribute) and isinstance(node.ctx, ast.Store) and node.attr in TAKEN:
        return [f"L26 {node.attr}"]
    if isinstance(node, ast.BinOp) and isinstance(node.op, ast.Pow) and not isinstance(node.right, ast.Constant):
        return [f"L27 line {node.lineno}"]
    if isinstance(node, ast.Constant) and isinstance(node.value, str) and "%" in node.value:
        return [f"L27 line {node.lineno}"]
    return []


def faults(source):
    tree = ast.parse(source)
    nodes = list(ast.walk(tree))
    methods = [node.name for node in nodes if isinstance(node, ast.FunctionDef)]
    found = faults_of_text(source) + faults_of_tops(tree)
    for node in nodes:
        found += faults_of_node(node, methods) + faults_of_values(node)
        for child in ast.iter_child_nodes(node):
            found += faults_by_parent(child, node)
    return found


def faults_of_package(sources):
    """What only shows over all files: whence names are drawn, and names that are both a method and a value."""
    trees = {name: ast.parse(source) for name, source in sources.items()}
    draws = {}
    found = []
    for name, tree in trees.items():
        draws[name] = []
        for node in tree.body:
            if isinstance(node, ast.ImportFrom):
                other = node.module.removeprefix("letterform.")
                draws[name].append(other)
                defined = [top.name for top in trees[other].body if isinstance(top, (ast.FunctionDef, ast.ClassDef))]
                defined += [target.id for target in tops_of(trees[other])]
                found += [f"L16 {alias.name}" for alias in node.names if alias.name not in defined]
    for name in draws:
        reached = list(draws[name])
        for other in reached:
            reached += [more for more in draws[other] if more not in reached]
        found += [f"L16 {name}"] if name in reached else []
    nodes = [node for tree in trees.values() for node in ast.walk(tree)]
    methods = [one.name for node in nodes if isinstance(node, ast.ClassDef) for one in node.body
               if isinstance(one, ast.FunctionDef)]
    found += [f"L18 {node.attr}" for node in nodes if isinstance(node, ast.Attribute)
              and isinstance(node.ctx, ast.Store) and node.attr in methods]
    return found


class Language(unittest.TestCase):
    def test_the_package_holds_plain_files_alone(self):
        for path in PACKAGE.rglob("*"):
            if "__pycache__" not in path.parts:
                self.assertRegex(path.name, r"^[a-z0-9_]+\.py$")

    def test_the_files_keep_to_the_rules(self):
        paths = sorted(PACKAGE.glob("*.py"))
        self.assertTrue(paths)
        for path in paths:
            with self.subTest(file=path.name):
                self.assertEqual(faults(path.read_text(encoding="utf-8")), [])

    def test_a_broken_rule_is_seen(self):
        sources = ("import os\n", "from .errors import BadForm\n", "a = 1.5\n", "a = b = 1\n", "a, b = 1, 2\n",
                   "def f(*xs):\n    pass\n", "def f(id):\n    pass\n", "def f(x):\n    return open(x)\n",
                   "def f(x):\n    return {y for y in x}\n", "def f(x):\n    return x.title()\n", "a = '\u00e4'\n",
                   "a = 1\t\n", "# a type\n", "a = '" + "x" * 120 + "'\n", "a = 1\n" * 401, "_a = 1\n",
                   "def f():\n" + "    pass\n" * 40, "class A:\n    def __hash__(self):\n        return 1\n",
                   "def f(x):\n    assert x\n", "def f(x):\n    with x:\n        pass\n",
                   "def f(x):\n    return x / 2\n",
                   "a = len('x')\n", "a = [[1]]\n", "a = 1\na = 2\n", "class A:\n    a = 1\n",
                   "def f(x: int):\n    pass\n", "def f() -> int:\n    pass\n",
                   "def f():\n    pass\n\n\ndef g(f):\n    pass\n", "def f():\n    pass\n\n\ndef g():\n    f = 1\n",
                   "def f(x):\n    x = range(3)\n", "def f(x):\n    return reversed(range(x))\n",
                   "def f(x):\n    return ','.join(reversed(x))[zip(x)]\n", "def f(x):\n    return x.items()\n",
                   "def f(x):\n    y = set(x)\n", "def f(x):\n    return x is f\n", "def f(x):\n    return 2 ** x\n",
                   "def f(x):\n    return int(x, base=2)\n", "def f(x):\n    return len\n", "a = '%'\n",
                   "class A:\n    def __init__(self):\n        self.items = 1\n")
        for source in sources:
            with self.subTest(source=source[:60]):
                self.assertNotEqual(faults(source), [])

    def test_the_files_fit_together(self):
        self.assertEqual(faults_of_package({path.stem: path.read_text("utf-8") for path in PACKAGE.glob("*.py")}), [])

    def test_files_that_do_not_fit_together_are_seen(self):
        self.assertNotEqual(faults_of_package({"a": "from letterform.b import x\n", "b": "y = 1\n"}), [])
        circle = {"a": "from letterform.b import x\ny = 1\n", "b": "from letterform.a import y\nx = 1\n"}
        self.assertEqual(faults_of_package(circle), ["L16 a", "L16 b"])
        method = "class A:\n    def b(self):\n        pass\n"
        value = "class C:\n    def __init__(self):\n        self.b = 1\n"
        self.assertEqual(faults_of_package({"a": method, "c": value}), ["L18 b"])


if __name__ == "__main__":
    unittest.main()
