"""The package keeps to the small part of Python that it is written in, as far as a test can see it."""

import ast
import builtins
import pathlib
import re
import unittest

PACKAGE = pathlib.Path(__file__).resolve().parent.parent / "dropsums"

BUILTINS = set(
    "len range enumerate zip min max sum abs sorted reversed int str bool list tuple dict set frozenset isinstance"
    " ord repr any all divmod Exception ValueError TypeError KeyError IndexError LookupError ZeroDivisionError"
    " ArithmeticError OverflowError RuntimeError NotImplementedError AttributeError StopIteration".split()
)
METHODS = set(
    "append clear copy count endswith extend find get index insert isalnum isalpha isdigit islower isspace isupper"
    " items join keys ljust lower lstrip partition pop remove replace reverse rfind rjust rpartition rsplit rstrip"
    " setdefault split splitlines startswith strip update upper values zfill bit_length".split()
)
WORDS_NOWHERE = re.compile(
    r"\b(type|typing|typing_extensions|enum|Enum|IntEnum|StrEnum|Flag|IntFlag|Generic|Protocol|ABC|ABCMeta|namedtuple"
    r"|NamedTuple|TypedDict|TYPE_CHECKING|abstractmethod)\b|dataclass|overload|contextmanager"
)
NODES = (
    ast.Module, ast.FunctionDef, ast.ClassDef, ast.Return, ast.Assign, ast.AugAssign, ast.For, ast.While, ast.If,
    ast.Raise, ast.Try, ast.ExceptHandler, ast.ImportFrom, ast.alias, ast.Expr, ast.Pass, ast.Break, ast.Continue,
    ast.BoolOp, ast.BinOp, ast.UnaryOp, ast.Lambda, ast.IfExp, ast.Dict, ast.Set, ast.ListComp, ast.Compare, ast.Call,
    ast.JoinedStr, ast.FormattedValue, ast.Constant, ast.Attribute, ast.Subscript, ast.Name, ast.List, ast.Tuple,
    ast.Slice, ast.comprehension, ast.arguments, ast.arg, ast.keyword, ast.expr_context, ast.boolop, ast.operator,
    ast.unaryop, ast.cmpop,
)
WALKED = ("zip", "enumerate", "reversed", "range")
WALKED_METHODS = ("items", "keys", "values")
WALKERS = ("list", "tuple", "dict", "sorted", "sum", "any", "all", "enumerate", "zip", "min", "max")
KEYWORDS = {
    "sorted": ("key", "reverse"), "min": ("key", "default"), "max": ("key", "default"), "sum": ("start",),
    "enumerate": ("start",), "zip": ("strict",),
}

BREACHES = (
    "import sys", "from os import path", "from dropsums.pots import *", "from dropsums.pots import is_whole",
    "x = len('a')", "x = 1\nx = 2", "def f(*xs):\n    return xs", "def f(x: int):\n    return x", "x = y = 1",
    "def f(x):\n    a, b = x\n    return a", "def f(x):\n    return x / 2", "def f(x):\n    return (y for y in x)",
    "def f(x):\n    return {y for y in x}", "def f(x):\n    return [a for a in x for b in a]", "x = 1.5",
    "def f(x):\n    assert x", "def f(x):\n    yield x", "def f(x):\n    with x:\n        pass", "x = '%'",
    "def f(x):\n    raise x", "def f(x):\n    try:\n        x()\n    except TypeError:\n        pass",
    "def f(x):\n    return x is 5", "def f(x):\n    return 2 ** x", "def f(x):\n    return x.sort()",
    "def f(x):\n    return x.title()", "def f(x):\n    return getattr(x, 'a')", "def f(id):\n    return id",
    "def f(x):\n    y = zip(x, x)\n    return y", "def f(x):\n    return x in range(5)", "class C:\n    x = 1",
    "def f(x):\n    y = set(x)\n    return y", "def f(_):\n    return 1", "# a type", "x = '" + "a" * 120 + "'",
    "def f(x):\n" + "    x += 1\n" * 40, "x = 1\n" + "\n" * 400, "x = '\u00e9'", "x = 1\t",
    "def f(x):\n    for y in x:\n        pass\n    else:\n        pass", "if True:\n    x = 1",
    "def f(x):\n    return f'{x:3}'", "def f(x):\n    return int(x, base=3)", "def f(x):\n    return (y := x)",
)


def called(node):
    return node.func.id if isinstance(node, ast.Call) and isinstance(node.func, ast.Name) else None


class Checked:
    """The breaches of one file, each with its rule and its line."""

    def __init__(self, name, text):
        self.name = name
        self.text = text
        self.tree = ast.parse(self.text)
        self.parents = {
            child: node for node in ast.walk(self.tree) for child in ast.iter_child_nodes(node)
        }
        self.breaches = []
        self.signs()
        self.top()
        for node in ast.walk(self.tree):
            self.node(node)
        for name in ("names", "imports", "expressions", "statements", "errors", "walked_at_once", "calls"):
            for node in ast.walk(self.tree):
                getattr(self, name)(node)

    def breach(self, rule, node):
        self.breaches.append(f"{self.name}:{getattr(node, 'lineno', node)}: {rule}")

    def signs(self):
        lines = self.text.split("\n")
        if len(lines) > 401:
            self.breach("L10", len(lines))
        for number, line in enumerate(lines, start=1):
            if len(line) > 120:
                self.breach("L10", number)
            if any(not " " <= sign <= "~" for sign in line):
                self.breach("L14", number)
            if WORDS_NOWHERE.search(line):
                self.breach("L17", number)

    def top(self):
        bound = []
        for place, node in enumerate(self.tree.body):
            if isinstance(node, ast.Expr):
                if place != 0 or not isinstance(node.value, ast.Constant):
                    self.breach("L3", node)
            elif isinstance(node, ast.Assign):
                bound.extend(target.id for target in node.targets)
                for part in ast.walk(node.value):
                    if isinstance(part, (ast.Call, ast.ListComp, ast.BinOp, ast.Set, ast.Lambda)):
                        self.breach("L3", node)
            elif isinstance(node, (ast.FunctionDef, ast.ClassDef)):
                bound.append(node.name)
            elif isinstance(node, ast.ImportFrom):
                bound.extend(name.name for name in node.names)
            else:
                self.breach("L3", node)
        for name in bound:
            if bound.count(name) > 1:
                self.breach("L15 " + name, 1)
        self.at_top = {
            name.name for node in self.tree.body if isinstance(node, ast.ImportFrom) for name in node.names
        } | {node.name for node in self.tree.body if isinstance(node, ast.ClassDef)}

    def node(self, node):
        if not isinstance(node, NODES):
            self.breach(f"L6, L7 {type(node).__name__}", node)
        if isinstance(node, ast.FunctionDef):
            arguments = node.args
            if node.decorator_list or arguments.vararg or arguments.kwarg or arguments.kwonlyargs:
                self.breach("L4", node)
            if node.end_lineno - node.lineno + 1 > 40:
                self.breach("L10", node)
            if node.returns or any(argument.annotation for argument in arguments.args):
                self.breach("L21", node)
        if isinstance(node, ast.ClassDef):
            if node.decorator_list or len(node.bases) > 1 or node.keywords or node not in self.tree.body:
                self.breach("L5", node)
            for part in node.body:
                docstring = part is node.body[0] and isinstance(part, ast.Expr) and isinstance(part.value, ast.Constant)
                if not docstring and not isinstance(part, ast.FunctionDef):
                    self.breach("L5", part)

    def names(self, node):
        bound = []
        if isinstance(node, ast.Name) and isinstance(node.ctx, ast.Store):
            bound.append(node.id)
        if isinstance(node, ast.arg):
            bound.append(node.arg)
        if isinstance(node, ast.ExceptHandler) and node.name:
            bound.append(node.name)
        for name in bound:
            if name in vars(builtins) or name in self.at_top:
                self.breach("L15 " + name, node)
        if isinstance(node, (ast.FunctionDef, ast.ClassDef)):
            bound.append(node.name)
            if node.name in vars(builtins):
                self.breach("L15 " + node.name, node)
        for name in bound:
            plain = re.fullmatch("[A-Za-z][A-Za-z0-9_]*", name)
            if not plain and name not in ("__init__", "__eq__", "__repr__", "__str__", "__len__"):
                self.breach("L12 " + name, node)
        if isinstance(node, ast.Name) and node.id in vars(builtins) and node.id not in BUILTINS:
            self.breach("L8 " + node.id, node)
        if isinstance(node, ast.Attribute) and node.attr in ("format", "format_map", "mro", "args", "sort"):
            self.breach("L8, L17, L25 " + node.attr, node)

    def imports(self, node):
        if isinstance(node, ast.ImportFrom):
            source = node.module or ""
            if node.level or not source.startswith("dropsums.") or any(name.asname for name in node.names):
                self.breach("L2", node)
                return
            drawn = ast.parse((PACKAGE / (source.split(".")[1] + ".py")).read_text(encoding="utf-8"))
            there = [part.name for part in drawn.body if isinstance(part, (ast.FunctionDef, ast.ClassDef))]
            there += [part.targets[0].id for part in drawn.body if isinstance(part, ast.Assign)]
            for name in node.names:
                if name.name not in there:
                    self.breach("L16 " + name.name, node)

    def expressions(self, node):
        if isinstance(node, ast.ListComp) and (len(node.generators) > 1 or len(node.generators[0].ifs) > 1):
            self.breach("L7", node)
        if isinstance(node, ast.BinOp) and isinstance(node.op, (ast.Div, ast.MatMult)):
            self.breach("L7", node)
        if isinstance(node, ast.BinOp) and isinstance(node.op, ast.Pow):
            written = isinstance(node.right, ast.Constant) and node.right.value in range(65)
            if not written:
                self.breach("L27", node)
        if isinstance(node, ast.Constant) and isinstance(node.value, (float, bytes, complex)):
            self.breach("L7", node)
        if isinstance(node, ast.Constant) and isinstance(node.value, str) and "%" in node.value:
            self.breach("L27", node)
        if isinstance(node, ast.FormattedValue):
            if node.format_spec or not isinstance(node.value, ast.Name) or node.conversion not in (-1, ord("r")):
                self.breach("L7", node)
        if isinstance(node, ast.Compare):
            for operator, other in zip(node.ops, node.comparators):
                if isinstance(operator, (ast.Is, ast.IsNot)):
                    if not (isinstance(other, ast.Constant) and other.value in (None, True, False)):
                        self.breach("L20", node)
        if isinstance(node, ast.Set):
            self.breach("L13, L24", node)
        if called(node) in ("set", "frozenset"):
            parent = self.parents[node]
            beside = isinstance(parent, (ast.Compare, ast.BinOp)) or called(parent) in ("len", "sorted")
            if not beside:
                self.breach("L24", node)

    def statements(self, node):
        if isinstance(node, ast.Assign) and (len(node.targets) != 1 or isinstance(node.targets[0], ast.Tuple)):
            self.breach("L6", node)
        if isinstance(node, (ast.For, ast.While)) and node.orelse:
            self.breach("L6", node)
        if isinstance(node, ast.Try) and node.finalbody:
            self.breach("L6", node)
        if isinstance(node, ast.Expr) and not isinstance(node.value, ast.Call):
            parent = self.parents[node]
            if not isinstance(node.value, ast.Constant) or parent.body[0] is not node:
                self.breach("L6", node)

    def errors(self, node):
        if isinstance(node, ast.ExceptHandler):
            if node.type is None or getattr(node.type, "id", "") in ("Exception", "TypeError"):
                self.breach("L19", node)
        if isinstance(node, ast.Raise) and not isinstance(node.exc, ast.Call):
            self.breach("L19", node)

    def walked_at_once(self, node):
        method = isinstance(node, ast.Call) and isinstance(node.func, ast.Attribute) and node.func.attr
        if called(node) not in WALKED and method not in WALKED_METHODS:
            return
        parent = self.parents[node]
        walked = isinstance(parent, (ast.For, ast.comprehension)) and parent.iter is node
        if not walked and not (called(parent) in WALKERS and node in parent.args):
            self.breach("L23", node)

    def calls(self, node):
        if not isinstance(node, ast.Call):
            return
        allowed = KEYWORDS.get(called(node), ())
        if called(node) in BUILTINS and any(keyword.arg not in allowed for keyword in node.keywords):
            self.breach("L22", node)
        if isinstance(node.func, ast.Attribute):
            of_own = isinstance(node.func.value, ast.Name) and node.func.value.id == "self"
            own = own_methods()
            if node.func.attr not in METHODS and node.func.attr not in own and not of_own:
                self.breach("L25 " + node.func.attr, node)


def own_methods():
    names = {"__init__"}
    for path in PACKAGE.glob("*.py"):
        for node in ast.walk(ast.parse(path.read_text(encoding="utf-8"))):
            if isinstance(node, ast.ClassDef):
                names.update(part.name for part in node.body if isinstance(part, ast.FunctionDef))
    return names


def drawn_from(path):
    tree = ast.parse(path.read_text(encoding="utf-8"))
    return [node.module.split(".")[1] for node in tree.body if isinstance(node, ast.ImportFrom)]


def own_values():
    """The values that objects of the package's classes keep, by name."""
    names = set()
    for path in PACKAGE.glob("*.py"):
        for node in ast.walk(ast.parse(path.read_text(encoding="utf-8"))):
            if isinstance(node, ast.Attribute) and isinstance(node.ctx, ast.Store):
                names.add(node.attr)
    return names


class TestLanguage(unittest.TestCase):
    def files(self):
        return sorted(PACKAGE.glob("*.py"))

    def test_own_methods_and_values(self):
        methods, values = own_methods() - {"__init__"}, own_values()
        self.assertTrue(methods and values)
        self.assertEqual(methods & values, set())
        of_python = {name for kind in (str, int, list, dict, set, bytes) for name in vars(kind)}
        self.assertEqual((methods | values) & of_python - METHODS, set())
        free = set("count index title find get join lower upper split strip copy add".split())
        self.assertEqual(values & (of_python | {"args"}) - free, set())

    def test_only_plain_files(self):
        for path in PACKAGE.iterdir():
            if path.name != "__pycache__":
                self.assertRegex(path.name, r"\A(__init__|__main__|[a-z][a-z0-9_]*)\.py\Z")
                self.assertFalse(path.stem in vars(builtins))
        self.assertIn("__init__.py", [path.name for path in self.files()])

    def test_rules(self):
        for path in self.files():
            self.assertEqual(Checked(path.name, path.read_text(encoding="utf-8")).breaches, [])

    def test_breaches_are_seen(self):
        for text in BREACHES:
            self.assertNotEqual(Checked("some.py", text + "\n").breaches, [], text)

    def test_no_two_files_draw_from_one_another(self):
        draws = {path.stem: drawn_from(path) for path in self.files()}
        left = dict(draws)
        while left:
            free = [name for name, sources in left.items() if not any(source in left for source in sources)]
            self.assertTrue(free, left)
            for name in free:
                del left[name]


if __name__ == "__main__":
    unittest.main()
