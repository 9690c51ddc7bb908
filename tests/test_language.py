"""Holds the package's files to those rules of the language document that can be seen in their text and tree."""

import ast
import builtins
import pathlib
import re
import unittest

PACKAGE = pathlib.Path(__file__).resolve().parent.parent / "sayhall"

OWN_NAMES = set(
    "len range enumerate zip min max sum abs sorted reversed int str bool list tuple dict set frozenset isinstance "
    "ord repr any all divmod Exception ValueError TypeError KeyError IndexError LookupError ZeroDivisionError "
    "ArithmeticError OverflowError RuntimeError NotImplementedError AttributeError StopIteration".split()
)
OWN_METHODS = set(
    "append clear copy count endswith extend find get index insert isalnum isalpha isdigit islower isspace isupper "
    "items join keys ljust lower lstrip partition pop remove replace reverse rfind rjust rpartition rsplit rstrip "
    "setdefault split splitlines startswith strip update upper values zfill bit_length".split()
)
UNUSED_NAMES = set(
    "register mro elements open input version_info with_traceback add_note attrgetter breakpoint builtins compile "
    "copyright credits delattr dir eval exec exit gc getattr globals hasattr help id importlib license locals "
    "methodcaller os quit setattr super type vars sys print chr".split()
)
UNUSED_WORDS = re.compile(
    r"\b(type|typing|typing_extensions|enum|Enum|IntEnum|StrEnum|Flag|IntFlag|Generic|Protocol|ABC|ABCMeta"
    r"|namedtuple|NamedTuple|TypedDict|TYPE_CHECKING|abstractmethod)\b|dataclass|overload|contextmanager"
)
KEYWORDS = {
    "sorted": {"key", "reverse"}, "min": {"key", "default"}, "max": {"key", "default"}, "sum": {"start"},
    "enumerate": {"start"}, "zip": {"strict"},
}
WALKERS = {"list", "tuple", "dict", "sorted", "sum", "any", "all", "enumerate", "zip"}
FREE_VALUES = set("count index title find get join lower upper split strip copy add".split())
UNUSED_FILES = {"test", "tests", "testing", "site", "conftest", "sitecustomize", "usercustomize"}

ALLOWED_NODES = (
    ast.Module, ast.ImportFrom, ast.alias, ast.FunctionDef, ast.ClassDef, ast.arguments, ast.arg,
    ast.Assign, ast.AugAssign, ast.If, ast.While, ast.For, ast.Return, ast.Break, ast.Continue, ast.Pass,
    ast.Raise, ast.Try, ast.ExceptHandler, ast.Expr, ast.Constant, ast.List, ast.Tuple, ast.Dict, ast.Set,
    ast.BinOp, ast.UnaryOp, ast.BoolOp, ast.Compare, ast.IfExp, ast.Call, ast.keyword, ast.Attribute,
    ast.Subscript, ast.Slice, ast.ListComp, ast.comprehension, ast.JoinedStr, ast.FormattedValue, ast.Name,
    ast.Lambda, ast.expr_context, ast.boolop, ast.operator, ast.unaryop, ast.cmpop,
)
UNUSED_NODES = (ast.Div, ast.MatMult)


def package_files():
    return sorted(PACKAGE.rglob("*.py"))


def text_faults(text):
    faults = []
    rows = text.split("\n")
    if len(rows) > 401:
        faults.append("L10 file too long")
    for number, row in enumerate(rows, 1):
        if len(row) > 120:
            faults.append(f"L10 row {number} too long")
        if any(not " " <= sign <= "~" for sign in row):
            faults.append(f"L14 sign in row {number}")
        if UNUSED_WORDS.search(row):
            faults.append(f"L17 word in row {number}")
    return faults


def is_docstring(node):
    return isinstance(node, ast.Expr) and isinstance(node.value, ast.Constant) and isinstance(node.value.value, str)


def top_faults(tree):
    faults, bound = [], []
    for place, node in enumerate(tree.body):
        if isinstance(node, (ast.FunctionDef, ast.ClassDef)):
            bound.append(node.name)
        elif isinstance(node, ast.ImportFrom):
            bound += [alias.asname or alias.name for alias in node.names]
        elif isinstance(node, ast.Assign):
            bound += [target.id for target in node.targets if isinstance(target, ast.Name)]
        elif place or not is_docstring(node):
            faults.append(f"L3 row {node.lineno}")
    if len(bound) != len(set(bound)):
        faults.append("L15 a name bound twice at the top")
    return faults


def def_faults(node):
    faults = []
    shape = node.args
    if shape.vararg or shape.kwarg or shape.kwonlyargs or shape.posonlyargs:
        faults.append("L4 parameters")
    if isinstance(node, ast.FunctionDef):
        if node.decorator_list:
            faults.append("L4 decorator")
        if node.end_lineno - node.lineno + 1 > 40:
            faults.append("L10 function too long")
    return faults


def class_faults(node):
    faults = []
    if node.decorator_list or node.keywords or len(node.bases) > 1:
        faults.append("L5 class")
    if not all(isinstance(part, (ast.FunctionDef, ast.Pass)) for part in node.body):
        faults.append("L5 class body")
    return faults


def call_faults(node):
    if is_call_of(node, OWN_NAMES):
        allowed = KEYWORDS.get(node.func.id, set())
    elif isinstance(node.func, ast.Attribute) and node.func.attr in OWN_METHODS:
        allowed = set()
    else:
        return []
    return [] if all(keyword.arg in allowed for keyword in node.keywords) else ["L22 keyword"]


def method_names(tree):
    """Names of the methods that the classes of a file have."""
    kinds = [node for node in ast.walk(tree) if isinstance(node, ast.ClassDef)]
    return {part.name for kind in kinds for part in kind.body if isinstance(part, ast.FunctionDef)}


def value_names(tree):
    """Names of the values that objects are given in a file."""
    return {node.attr for node in ast.walk(tree) if isinstance(node, ast.Attribute) and isinstance(node.ctx, ast.Store)}


def attribute_faults(tree, methods):
    """The methods are those of all the package's classes: an object may be used far from its class."""
    faults = []
    called = {id(node.func) for node in ast.walk(tree) if isinstance(node, ast.Call)}
    for node in ast.walk(tree):
        if isinstance(node, ast.Attribute):
            if id(node) in called and node.attr not in OWN_METHODS | methods | {"__init__"}:
                faults.append(f"L25 method {node.attr}")
            if id(node) not in called and node.attr in OWN_METHODS | methods:
                faults.append(f"L25 method {node.attr} handed on")
    pythons = {name for kind in (str, int, list, dict, set, bytes) for name in dir(kind)}
    free = OWN_METHODS | {"add", "discard", "__init__", "__eq__", "__repr__", "__str__", "__len__"}
    faults += [f"L26 method {name}" for name in sorted(method_names(tree) & pythons - free)]
    faults += [f"L26 value {name}" for name in sorted(value_names(tree) & pythons - FREE_VALUES)]
    return faults + [f"L18 method and value {name}" for name in sorted(methods & value_names(tree))]


def parents_of(tree):
    return {id(child): node for node in ast.walk(tree) for child in ast.iter_child_nodes(node)}


def is_call_of(node, names):
    return isinstance(node, ast.Call) and isinstance(node.func, ast.Name) and node.func.id in names


def is_walked_at_once(node, above):
    if isinstance(above, (ast.For, ast.comprehension)):
        return above.iter is node
    if is_call_of(above, WALKERS):
        return above.args[0] is node or above.func.id == "zip"
    if is_call_of(above, {"min", "max"}):
        return above.args == [node]
    return isinstance(above, ast.Call) and isinstance(above.func, ast.Attribute) and above.func.attr == "join"


def walk_faults(tree):
    faults = []
    above = parents_of(tree)
    for node in ast.walk(tree):
        views = isinstance(node, ast.Call) and isinstance(node.func, ast.Attribute)
        views = views and node.func.attr in {"items", "keys", "values"}
        if views or is_call_of(node, {"zip", "enumerate", "reversed", "range"}):
            if not is_walked_at_once(node, above[id(node)]):
                faults.append(f"L23 row {node.lineno}")
        if is_call_of(node, {"set", "frozenset"}):
            outer = above[id(node)]
            while isinstance(outer, ast.BinOp):
                outer = above[id(outer)]
            if not isinstance(outer, ast.Compare) and not (is_call_of(outer, {"sorted", "len"}) and not outer.keywords):
                faults.append(f"L24 row {node.lineno}")
    return faults


def is_faults(node):
    sides = [node.left] + node.comparators
    for place, sign in enumerate(node.ops):
        if isinstance(sign, (ast.Is, ast.IsNot)):
            beside = sides[place:place + 2]
            if not any(isinstance(side, ast.Constant) and side.value in (None, True, False) for side in beside):
                return ["L20 is"]
    return []


def constant_faults(node):
    if not isinstance(node.value, (int, str, type(None))):
        return ["L7 value"]
    if isinstance(node.value, str) and "%" in node.value:
        return ["L27 text"]
    return []


def power_faults(node):
    if not isinstance(node.op, ast.Pow):
        return []
    written = isinstance(node.right, ast.Constant) and node.right.value in range(65)
    return [] if written else ["L27 power"]


def handler_faults(node):
    if node.type is None:
        return ["L6 except without a name"]
    kinds = node.type.elts if isinstance(node.type, ast.Tuple) else [node.type]
    bad = {"Exception", "TypeError"}
    return ["L19 except"] if any(isinstance(kind, ast.Name) and kind.id in bad for kind in kinds) else []


def local_faults(tree):
    """Parameters and locals that are called like a class or an import of their file."""
    imports = [node for node in tree.body if isinstance(node, ast.ImportFrom)]
    taken = {alias.asname or alias.name for node in imports for alias in node.names}
    taken |= {node.name for node in tree.body if isinstance(node, ast.ClassDef)}
    found = set()
    for node in ast.walk(tree):
        if isinstance(node, (ast.FunctionDef, ast.Lambda)):
            found |= bound_names(node) & taken
    return [f"L15 local {name}" for name in sorted(found)]


def import_faults(node):
    good = node.level == 0 and (node.module == "__future__" or (node.module or "").startswith("sayhall."))
    return [] if good and all(alias.name != "*" for alias in node.names) else ["L2 import"]


def statement_faults(node):
    if isinstance(node, ast.Assign) and len(node.targets) != 1:
        return ["L6 several targets"]
    if isinstance(node, (ast.For, ast.While)) and node.orelse:
        return ["L6 else behind a loop"]
    if isinstance(node, ast.Try) and node.finalbody:
        return ["L6 finally"]
    if isinstance(node, ast.Expr) and not isinstance(node.value, (ast.Call, ast.Constant)):
        return ["L6 statement"]
    if isinstance(node, ast.ListComp) and (len(node.generators) > 1 or len(node.generators[0].ifs) > 1):
        return ["L7 comprehension"]
    return []


FAULTS_BY_NODE = (
    (ast.FunctionDef, def_faults), (ast.Lambda, def_faults), (ast.ClassDef, class_faults), (ast.Call, call_faults),
    (ast.Compare, is_faults), (ast.Constant, constant_faults), (ast.ImportFrom, import_faults),
    ((ast.stmt, ast.ListComp), statement_faults), (ast.BinOp, power_faults), (ast.ExceptHandler, handler_faults),
)


def bound_names(tree):
    found = []
    for node in ast.walk(tree):
        if isinstance(node, (ast.FunctionDef, ast.ClassDef)):
            found.append(node.name)
        elif isinstance(node, ast.arg):
            found.append(node.arg)
        elif isinstance(node, ast.Name) and not isinstance(node.ctx, ast.Load):
            found.append(node.id)
        elif isinstance(node, ast.alias):
            found.append(node.asname or node.name)
        elif isinstance(node, ast.ExceptHandler) and node.name:
            found.append(node.name)
    return set(found)


def name_faults(tree):
    bound = bound_names(tree) - {"__init__", "__eq__", "__repr__", "__str__", "__len__"}
    faults = [f"L12 name {name}" for name in bound if name.startswith("_")]
    faults += [f"L15 name {name}" for name in bound if hasattr(builtins, name)]
    faults += [f"L17 name {name}" for name in bound & UNUSED_NAMES]
    for node in ast.walk(tree):
        if isinstance(node, ast.Name) and node.id not in bound | OWN_NAMES:
            faults.append(f"L8 name {node.id}")
        if isinstance(node, ast.Attribute) and node.attr.startswith("_") and node.attr != "__init__":
            faults.append(f"L12 name {node.attr}")
    return faults


def faults_of(text, methods=frozenset()):
    tree = ast.parse(text)
    faults = text_faults(text) + top_faults(tree) + name_faults(tree)
    faults += attribute_faults(tree, methods | method_names(tree)) + walk_faults(tree) + local_faults(tree)
    for node in ast.walk(tree):
        if not isinstance(node, ALLOWED_NODES) or isinstance(node, UNUSED_NODES):
            faults.append(f"L6 or L7 {node.__class__.__name__}")
        for kinds, told in FAULTS_BY_NODE:
            if isinstance(node, kinds):
                faults += told(node)
    return faults


def drawn_from(path):
    tree = ast.parse(path.read_text(encoding="utf-8"))
    return {node.module.split(".")[-1] for node in ast.walk(tree) if isinstance(node, ast.ImportFrom)}


class Language(unittest.TestCase):
    def test_there_are_files(self):
        self.assertIn("__init__.py", [path.name for path in package_files()])

    def test_only_plain_files_lie_in_the_package(self):
        for path in PACKAGE.iterdir():
            # Python may have left its own folder here; it is no file of the project.
            if path.name not in ("__pycache__", "__init__.py"):
                with self.subTest(path=path.name):
                    self.assertRegex(path.name, r"\A[a-z][a-z0-9_]*\.py\Z")
                    self.assertNotIn(path.stem, UNUSED_FILES)
                    self.assertFalse(path.stem.startswith("test_") or hasattr(builtins, path.stem))

    def test_each_file_keeps_the_rules(self):
        texts = {path.name: path.read_text(encoding="utf-8") for path in package_files()}
        methods = set().union(*[method_names(ast.parse(text)) for text in texts.values()])
        for name, text in texts.items():
            with self.subTest(path=name):
                self.assertEqual(faults_of(text, methods), [])

    def test_no_two_files_draw_from_one_another(self):
        left = {path.stem: drawn_from(path) for path in package_files()}
        while left:
            free = [name for name in left if not left[name] & set(left)]
            self.assertTrue(free, f"these draw from one another: {sorted(left)}")
            for name in free:
                left.pop(name)


class TheCheckItself(unittest.TestCase):
    def test_good_text_has_no_faults(self):
        text = '"""Words."""\n\nMOST = 3\n\n\ndef least(xs):\n    return min(xs, default=MOST)\n'
        self.assertEqual(faults_of(text), [])

    def test_own_methods(self):
        text = "class A:\n    def __init__(self):\n        self.x = 1\n\n    def way(self):\n        return self.x\n"
        self.assertEqual(faults_of(text), [])
        self.assertEqual(faults_of("def f(a):\n    return a.way()\n", {"way"}), [])
        self.assertNotEqual(faults_of("def f(a):\n    return a.way()\n"), [])
        self.assertNotEqual(faults_of("def f(a):\n    return a.way\n", {"way"}), [])
        self.assertNotEqual(faults_of("class A:\n    def __init__(self):\n        self.way = 1\n", {"way"}), [])
        self.assertNotEqual(faults_of("class A:\n    def __init__(self):\n        self.items = 1\n"), [])
        self.assertNotEqual(faults_of("class A:\n    def sort(self):\n        return 1\n"), [])

    def test_sets_and_what_is_walked(self):
        for value in [
            "sorted(set(a))", "len(set(a) | set(b))", "a in set(b)", "set(a) == set(b)", "list(range(a))",
            "[x for x in zip(a, b)]", "dict(zip(a, b))", "max(a.values())", "', '.join(a.keys())",
            "list(enumerate(zip(a, b)))",
        ]:
            with self.subTest(value=value):
                self.assertEqual(faults_of(f"def f(a, b):\n    return {value}\n"), [])
        for value in [
            "set(a)", "sorted(set(a), key=abs)", "list(set(a))", "[x for x in set(a)]", "range(a)", "zip(a, b)",
            "a.items()", "list(reversed(range(a)))", "f(range(a))", "min(range(a), range(b))",
            "sorted(a, start=1)", "int(x=a)", "a.split(maxsplit=1)",
        ]:
            with self.subTest(value=value):
                self.assertNotEqual(faults_of(f"def f(a, b):\n    return {value}\n"), [])

    def test_bad_texts_have_faults(self):
        for text in [
            "import os\n", "from os import path\n", "from . import errors\n", "from sayhall.errors import *\n",
            "x = 1.5\n", "def f(a):\n    return a / 2\n", "def f(*a):\n    return a\n", "def f(a):\n    yield a\n",
            "def f(a):\n    return type(a)\n", "# the type of it\n", "x = {k: 1 for k in [1]}\n", "print(1)\n",
            "def f(a):\n    return [x for y in a for x in y]\n", "def f(a):\n    return a is f\n", "a = b = 1\n",
            "def f(a):\n    a.sort()\n", "def _f(a):\n    return a\n", "def f(id):\n    return id\n", "x = 1\nx = 2\n",
            "class A:\n    x = 1\n", "def f(a):\n    assert a\n", "x = '50%'\n", "x = 1  # \u00e9\n", "x =\t1\n",
            "def f(a):\n    return (x for x in a)\n", "def f(a):\n    with a:\n        pass\n", "x = b'1'\n",
            "from sayhall.errors import Clash\n\n\ndef f(Clash):\n    return Clash\n", "def f(a):\n    return 2 ** a\n",
            "class A:\n    pass\n\n\ndef f(a):\n    A = a\n    return A\n", "x = 2 ** 65\n",
            "def f(a):\n    try:\n        return a[0]\n    except TypeError:\n        return 0\n",
            "def f(a):\n    try:\n        return a[0]\n    except (KeyError, Exception):\n        return 0\n",
            "def f(a):\n    try:\n        return a[0]\n    except:\n        return 0\n",
            "def f(a):\n" + "    a = a\n" * 40, "x = " + "1" * 120 + "\n", "x = 1\n" * 401,
        ]:
            with self.subTest(text=text[:60]):
                self.assertNotEqual(faults_of(text), [])


if __name__ == "__main__":
    unittest.main()
