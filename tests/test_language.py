"""The package's files keep to the small part of Python that the program is written in.

This sees what a walk of the syntax can see of the rules L1 to L28, not all of them.
"""

import ast
import builtins
import pathlib
import re
import unittest

PACKAGE = pathlib.Path(__file__).resolve().parent.parent / "unjump"

OWN_NAMES = set("""
len range enumerate zip min max sum abs sorted reversed int str bool list tuple dict set frozenset isinstance ord
repr any all divmod Exception ValueError TypeError KeyError IndexError LookupError ZeroDivisionError ArithmeticError
OverflowError RuntimeError NotImplementedError AttributeError StopIteration
""".split())
OWN_METHODS = set("""
append clear copy count endswith extend find get index insert isalnum isalpha isdigit islower isspace isupper items
join keys ljust lower lstrip partition pop remove replace reverse rfind rjust rpartition rsplit rstrip setdefault
split splitlines startswith strip update upper values zfill bit_length
""".split())
NEVER_NAMES = set("""
register mro elements open input version_info with_traceback add_note attrgetter breakpoint builtins compile copyright
credits delattr dir eval exec exit gc getattr globals hasattr help id importlib license locals methodcaller os quit
setattr super type vars sys __name__ chr
""".split())
NEVER_ATTRIBUTES = {"register", "mro", "elements", "open", "input", "version_info", "with_traceback", "add_note",
                    "format", "format_map", "sort", "args", "encode"}
NEVER_WORDS = re.compile(
    r"\b(type|typing|typing_extensions|enum|Enum|IntEnum|StrEnum|Flag|IntFlag|Generic|Protocol|ABC|ABCMeta|namedtuple"
    r"|NamedTuple|TypedDict|TYPE_CHECKING|abstractmethod)\b|dataclass|overload|contextmanager")
NEVER_FILES = re.compile(r"test|tests|testing|test_.*|site|conftest|sitecustomize|usercustomize")
DUNDER_METHODS = ("__init__", "__eq__", "__repr__", "__str__", "__len__")
ALLOWED = (
    ast.Module, ast.FunctionDef, ast.ClassDef, ast.arguments, ast.arg, ast.Return, ast.Assign, ast.AugAssign, ast.For,
    ast.While, ast.If, ast.Raise, ast.Try, ast.ExceptHandler, ast.ImportFrom, ast.alias, ast.Expr, ast.Pass, ast.Break,
    ast.Continue, ast.BoolOp, ast.BinOp, ast.UnaryOp, ast.Lambda, ast.IfExp, ast.Dict, ast.Set, ast.ListComp,
    ast.comprehension, ast.Compare, ast.Call, ast.keyword, ast.JoinedStr, ast.FormattedValue, ast.Constant,
    ast.Attribute, ast.Subscript, ast.Name, ast.List, ast.Tuple, ast.Slice, ast.expr_context, ast.boolop, ast.operator,
    ast.unaryop, ast.cmpop)


def faults_of_text(text):
    """What the signs and lengths of a file break."""
    lines = text.split("\n")
    faults = [f"L10: line {k} is too long" for k, line in enumerate(lines, 1) if len(line) > 120]
    faults += [f"L14: line {k} has another sign" for k, line in enumerate(lines, 1) if not re.fullmatch(r"[ -~]*", line)]
    faults += [f"L17: line {k} has a word of the list" for k, line in enumerate(lines, 1) if NEVER_WORDS.search(line)]
    if len(text.splitlines()) > 400:
        faults.append("L10: the file is too long")
    return faults


def faults_of_node(node):
    """What one node of the syntax breaks, looked at by itself."""
    if not isinstance(node, ALLOWED):
        return [f"L6, L7: {type(node).__name__}"]
    check = CHECKS.get(type(node))
    return [fault for wrong, fault in check(node) if wrong] if check else []


def check_function(node):
    given = node.args
    yield node.decorator_list, "L4: a decorator"
    yield given.vararg or given.kwarg or given.kwonlyargs or given.posonlyargs, "L4: other than plain parameters"
    yield node.end_lineno - node.lineno + 1 > 40, f"L10: {node.name} is too long"
    yield node.name.startswith("_") and node.name not in DUNDER_METHODS, f"L12: {node.name}"


def check_class(node):
    yield node.decorator_list or node.keywords or len(node.bases) > 1, f"L5: {node.name}"
    yield [inner for inner in node.body if not isinstance(inner, (ast.FunctionDef, ast.Pass))], f"L5: in {node.name}"


def check_constant(node):
    yield not (node.value is None or type(node.value) in (int, str, bool)), f"L7: {node.value!r}"
    yield isinstance(node.value, str) and "%" in node.value, "L27: the sign of rest in a text"


def check_name(node):
    known = hasattr(builtins, node.id)
    yield node.id.startswith("_"), f"L12: {node.id}"
    yield node.id in NEVER_NAMES, f"L17: {node.id}"
    yield known and node.id not in OWN_NAMES, f"L8: {node.id}"
    yield known and isinstance(node.ctx, ast.Store), f"L15: {node.id} is given another meaning"


def check_attribute(node):
    of_python = any(hasattr(kind, node.attr) for kind in (str, int, list, dict, set, bytes, tuple))
    yield node.attr.startswith("_") and node.attr != "__init__", f"L12: .{node.attr}"
    yield node.attr in NEVER_ATTRIBUTES, f"L17: .{node.attr}"
    yield of_python and node.attr not in OWN_METHODS and node.attr != "__init__", f"L25: .{node.attr}"


def check_handler(node):
    caught = ast.unparse(node.type) if node.type else "all"
    yield caught in ("all", "Exception", "TypeError"), f"L19: except of {caught}"


def check_compare(node):
    for operator, side in zip(node.ops, node.comparators):
        plain = isinstance(side, ast.Constant) and (side.value is None or isinstance(side.value, bool))
        yield isinstance(operator, (ast.Is, ast.IsNot)) and not plain, "L20: is"


def check_sum(node):
    exponent = getattr(node, "right", getattr(node, "value", None))
    yield isinstance(node.op, (ast.Div, ast.MatMult)), "L7: a sign that is not allowed"
    yield isinstance(node.op, ast.Pow) and not isinstance(exponent, ast.Constant), "L27: an unwritten exponent"


CHECKS = {
    ast.FunctionDef: check_function,
    ast.ClassDef: check_class,
    ast.Constant: check_constant,
    ast.Name: check_name,
    ast.Attribute: check_attribute,
    ast.ExceptHandler: check_handler,
    ast.Compare: check_compare,
    ast.BinOp: check_sum,
    ast.AugAssign: check_sum,
    ast.arg: lambda node: [(hasattr(builtins, node.arg) or node.arg.startswith("_"), f"L15: {node.arg}")],
    ast.Assign: lambda node: [(len(node.targets) > 1, "L6: several targets")],
    ast.For: lambda node: check_for(node),
    ast.Call: lambda node: check_call(node),
    ast.FormattedValue: lambda node: [(node.format_spec or not isinstance(node.value, ast.Name), "L7: an f-string")],
    ast.While: lambda node: [(node.orelse, "L6: else behind a loop")],
    ast.Try: lambda node: [(node.finalbody, "L6: finally")],
    ast.Expr: lambda node: [(not isinstance(node.value, (ast.Call, ast.Constant)), "L6: an idle expression")],
    ast.ListComp: lambda node: [(len(node.generators) > 1 or len(node.generators[0].ifs) > 1, "L7: comprehension")],
    ast.ImportFrom: lambda node: [(node.level or not node.module.startswith("unjump."), "L2, L16: import")],
    ast.alias: lambda node: [(node.name == "*", "L2: import of all")],
}


WALKS = {"zip", "enumerate", "reversed", "range"}
WALKERS = {"list", "tuple", "dict", "sorted", "sum", "any", "all", "enumerate", "zip", "min", "max"}
KEYWORDS = {"sorted": {"key", "reverse"}, "min": {"key", "default"}, "max": {"key", "default"}, "sum": {"start"},
            "enumerate": {"start"}, "zip": {"strict"}}
CHANGES = {"append", "clear", "extend", "insert", "pop", "remove", "reverse", "setdefault", "update"}


def called(node):
    """The plain name that a call calls, or None."""
    return node.func.id if isinstance(node, ast.Call) and isinstance(node.func, ast.Name) else None


def method(node):
    """The method that a call calls, or None."""
    return node.func.attr if isinstance(node, ast.Call) and isinstance(node.func, ast.Attribute) else None


def is_walked_at_once(node, parent):
    if isinstance(parent, (ast.For, ast.comprehension)):
        return parent.iter is node
    if method(parent) == "join":
        return isinstance(parent.func.value, ast.Constant)
    if called(parent) == "zip":
        return node in parent.args
    return called(parent) in WALKERS and parent.args[0] is node


def is_set_at_once(node, parent):
    if isinstance(parent, ast.Compare):
        return isinstance(parent.ops[0], (ast.Eq, ast.NotEq)) or parent.left is not node
    return called(parent) in ("sorted", "len") and parent.args == [node] and not parent.keywords


def faults_of_uses(tree):
    """What a node breaks by where it stands."""
    faults = []
    for parent in ast.walk(tree):
        for node in ast.iter_child_nodes(parent):
            if called(node) in WALKS or method(node) in ("items", "keys", "values"):
                faults += [] if is_walked_at_once(node, parent) else [f"L23: line {node.lineno} keeps a walk"]
            if called(node) in ("set", "frozenset") or isinstance(node, ast.Set):
                faults += [] if is_set_at_once(node, parent) else [f"L24: line {node.lineno} keeps a set"]
            if isinstance(node, ast.Name) and node.id in OWN_NAMES and hasattr(builtins, node.id):
                faults += faults_of_own_name(node, parent)
    return faults


def faults_of_own_name(node, parent):
    """Python's own names are called; classes also stand by isinstance, as a base, or behind except."""
    plain = isinstance(parent, ast.Call) and (parent.func is node or called(parent) == "isinstance")
    plain = plain or isinstance(parent, (ast.keyword, ast.ClassDef, ast.ExceptHandler, ast.Tuple, ast.Raise))
    return [] if plain else [f"L22: line {node.lineno} keeps {node.id}"]


def check_call(node):
    given = {keyword.arg for keyword in node.keywords}
    of_python = called(node) is not None and hasattr(builtins, called(node)) or method(node) in OWN_METHODS
    yield of_python and given - KEYWORDS.get(called(node), set()), f"L22: line {node.lineno} has a keyword"


def check_for(node):
    walked = {ast.unparse(node.iter)}
    if isinstance(node.iter, ast.Call):
        walked = {ast.unparse(thing) for thing in node.iter.args}
        walked |= {ast.unparse(node.iter.func.value)} if method(node.iter) else set()
        walked = walked if called(node.iter) in WALKS or method(node.iter) else set()
    yield node.orelse, "L6: else behind a loop"
    for inner in [inner for part in node.body for inner in ast.walk(part)]:
        if method(inner) in CHANGES:
            yield ast.unparse(inner.func.value) in walked, f"L23: line {inner.lineno} changes what is walked"
        if isinstance(inner, ast.Subscript) and isinstance(inner.ctx, ast.Store):
            yield ast.unparse(inner.value) in walked, f"L23: line {inner.lineno} changes what is walked"


def faults_of_locals(tree):
    """A local or a parameter that is called like an import or a class of its file."""
    taken = [alias.asname or alias.name for node in tree.body if isinstance(node, ast.ImportFrom) for alias in node.names]
    taken += [node.name for node in tree.body if isinstance(node, ast.ClassDef)]
    names = [node.arg for node in ast.walk(tree) if isinstance(node, ast.arg)]
    names += [node.id for node in ast.walk(tree) if isinstance(node, ast.Name) and isinstance(node.ctx, ast.Store)]
    return [f"L15: {name} is an import or a class" for name in names if name in taken]


def faults_of_top(tree):
    """What the top of a file breaks: what stands there, and names that are bound twice."""
    names, faults = [], []
    for place, node in enumerate(tree.body):
        if isinstance(node, (ast.FunctionDef, ast.ClassDef)):
            names.append(node.name)
        elif isinstance(node, ast.ImportFrom):
            names += [alias.asname or alias.name for alias in node.names]
        elif isinstance(node, ast.Assign):
            names += [ast.unparse(target) for target in node.targets]
        elif place > 0 or not isinstance(node, ast.Expr):
            faults.append(f"L3: {type(node).__name__} at the top")
    faults += [f"L15: {name} is bound twice" for name in sorted(set(names)) if names.count(name) > 1]
    inner = [node for node in ast.walk(tree) if isinstance(node, (ast.ImportFrom, ast.ClassDef)) and node not in tree.body]
    return faults + ["L2, L15: an import or a class that is not at the top" for node in inner]


def faults_of(text):
    tree = ast.parse(text)
    faults = faults_of_text(text) + faults_of_top(tree) + faults_of_uses(tree) + faults_of_locals(tree)
    for node in ast.walk(tree):
        faults += faults_of_node(node)
    return faults


def drawn_from(path):
    tree = ast.parse(path.read_text())
    return [node.module.split(".")[1] for node in tree.body if isinstance(node, ast.ImportFrom)]


class LanguageTest(unittest.TestCase):
    def files(self):
        return sorted(path for path in PACKAGE.iterdir() if path.name != "__pycache__")

    def test_files(self):
        self.assertIn("__init__.py", [path.name for path in self.files()])
        for path in self.files():
            with self.subTest(path=path.name):
                self.assertRegex(path.name, r"\A([a-z][a-z0-9_]*|__init__)\.py\Z")
                self.assertIsNone(NEVER_FILES.fullmatch(path.stem))
                self.assertNotIn(path.stem, dir(builtins))

    def test_each_file_keeps_to_the_rules(self):
        for path in self.files():
            with self.subTest(path=path.name):
                self.assertEqual(faults_of(path.read_text(encoding="utf-8")), [])

    def test_no_two_files_draw_from_one_another(self):
        below = {path.stem: drawn_from(path) for path in self.files()}
        while below:
            free = [stem for stem in below if not any(other in below for other in below[stem])]
            self.assertTrue(free, f"a ring of imports among {sorted(below)}")
            below = {stem: below[stem] for stem in below if stem not in free}

    def test_what_breaks_a_rule_is_seen(self):
        broken = (
            "import sys", "from unjump import words", "from .words import is_name", "from unjump.words import *",
            "x = 1\nx = 2", "x = 1.5", "x = b'1'", "x = 1\ndel x", "print(1)", "def f(*xs):\n    pass",
            "def f(id):\n    return id", "def f(x):\n    return x / 2", "def f(x):\n    return 2 ** x",
            "def f(x):\n    x.sort()", "def f(x):\n    return x.casefold()", "def f(x):\n    return chr(x)",
            "def f(x):\n    return x is 1", "def f(x):\n    return {k for k in x}", "def f(x):\n    y = z = x",
            "def f(x):\n    assert x", "def f(x):\n    x == 1", "def f(_x):\n    pass", "def _f(x):\n    pass",
            "def f(x):\n    try:\n        x()\n    except Exception:\n        pass", "x = '%'", "x = 'type'",
            "def f(x):\n    for k in x:\n        pass\n    else:\n        pass", "class A:\n    x = 1",
            "class A(B, C):\n    pass", "@f\ndef g():\n    pass", "x = '" + "a" * 120 + "'", "x = 1\n\ty = 2",
            "def f():\n" + "    pass\n" * 40, "x = 1\n" * 401, "def f(x):\n    y = list(k for k in x)",
            "def f(x):\n    y = set(x)", "def f(x):\n    for k in set(x):\n        pass", "def f(x):\n    return range(x)",
            "def f(x, g):\n    g(range(x))", "def f(x):\n    y = x.items()", "def f(x):\n    y = len",
            "def f(x):\n    return sum(x, key=1)", "def f(x):\n    return x.split(sep=1)", "def f(x):\n    return f'{x + 1}'",
            "def f(x):\n    for k in x:\n        x.append(k)", "def f(x):\n    for k, y in enumerate(x):\n        x[k] = y",
            "def f(x):\n    for k in x.items():\n        x.pop(k)", "from unjump.words import is_name\ndef f(is_name):\n    pass",
            "from unjump.words import is_name\ndef f(x):\n    is_name = x", "class A:\n    pass\ndef f(A):\n    pass")
        for text in broken:
            with self.subTest(text=text[:60]):
                self.assertTrue(self.is_refused(text))

    def is_refused(self, text):
        try:
            return faults_of(text) != []
        except SyntaxError:
            return True


if __name__ == "__main__":
    unittest.main()
