"""The form of the package's files: the rules of the language that can be read off a file.

It sees the common slips, each named by its rule, and not all that the rules ask for.
"""

import ast
import pathlib
import re
import unittest

PACKAGE = pathlib.Path(__file__).resolve().parent.parent / "wakeorder"

STATEMENTS = (
    ast.Assign, ast.AugAssign, ast.If, ast.While, ast.For, ast.Return, ast.Break, ast.Continue, ast.Pass,
    ast.Raise, ast.Try, ast.Expr, ast.FunctionDef, ast.ClassDef, ast.ImportFrom,
)
EXPRESSIONS = (
    ast.Constant, ast.List, ast.Tuple, ast.Dict, ast.Set, ast.BinOp, ast.UnaryOp, ast.BoolOp, ast.Compare,
    ast.IfExp, ast.Call, ast.Attribute, ast.Subscript, ast.Slice, ast.ListComp, ast.JoinedStr,
    ast.FormattedValue, ast.Lambda, ast.Name,
)
OWN_NAMES = set(
    "len range enumerate zip min max sum abs sorted reversed int str bool list tuple dict set frozenset"
    " isinstance ord repr any all divmod Exception ValueError TypeError KeyError IndexError LookupError"
    " ZeroDivisionError ArithmeticError OverflowError RuntimeError NotImplementedError AttributeError"
    " StopIteration".split()
)
OWN_METHODS = set(
    "append clear copy count endswith extend find get index insert isalnum isalpha isdigit islower isspace"
    " isupper items join keys ljust lower lstrip partition pop remove replace reverse rfind rjust"
    " rpartition rsplit rstrip setdefault split splitlines startswith strip update upper values zfill"
    " bit_length".split()
)
SPECIAL = set("__init__ __eq__ __repr__ __str__ __len__".split())
BANNED_NAMES = set(
    "register mro elements open input version_info with_traceback add_note attrgetter breakpoint builtins"
    " compile copyright credits delattr dir eval exec exit gc getattr globals hasattr help id importlib"
    " license locals methodcaller os quit setattr super vars sys format format_map chr".split()
)
BANNED_WORDS = re.compile(
    r"\b(type|typing|typing_extensions|enum|Enum|IntEnum|StrEnum|Flag|IntFlag|Generic|Protocol|ABC|ABCMeta"
    r"|namedtuple|NamedTuple|TypedDict|TYPE_CHECKING|abstractmethod)\b|dataclass|overload|contextmanager"
)
BUILTIN_NAMES = set(dir(__import__("builtins")))


def file_faults(text):
    rows = text.split("\n")
    if len(rows) > 401:
        yield "L10 a file of more than 400 lines"
    for number, row in enumerate(rows, start=1):
        if len(row) > 120:
            yield f"L10 line {number}: too long"
        if any(not " " <= sign <= "~" for sign in row):
            yield f"L14 line {number}: a sign that is not allowed"
        if BANNED_WORDS.search(row):
            yield f"L17 line {number}: a word that is not used"


def is_docstring(node):
    return isinstance(node, ast.Expr) and isinstance(node.value, ast.Constant) and isinstance(node.value.value, str)


def top_faults(tree):
    bound = []
    for place, node in enumerate(tree.body):
        if isinstance(node, ast.ImportFrom):
            if node.level or not (node.module or "").startswith("wakeorder.") or node.module == "wakeorder.__main__":
                yield f"L2 line {node.lineno}: not from the package's own files"
            if any(alias.name == "*" for alias in node.names):
                yield f"L2 line {node.lineno}: a star"
            bound.extend(alias.asname or alias.name for alias in node.names)
        elif isinstance(node, (ast.FunctionDef, ast.ClassDef)):
            bound.append(node.name)
        elif isinstance(node, ast.Assign) and isinstance(node.targets[0], ast.Name):
            bound.append(node.targets[0].id)
            if any(isinstance(part, (ast.BinOp, ast.Call, ast.ListComp)) for part in ast.walk(node.value)):
                yield f"L3 line {node.lineno}: no plain value"
        elif not (place == 0 and is_docstring(node)):
            yield f"L3 line {node.lineno}: does not stand at a file's top"
    for name in sorted(set(bound)):
        if bound.count(name) > 1:
            yield f"L15 {name} is bound more than once"


def class_faults(node):
    methods = []
    if len(node.bases) > 1 or node.keywords or node.decorator_list:
        yield f"L5 line {node.lineno}: more than one plain base"
    for part in node.body:
        if isinstance(part, ast.FunctionDef):
            methods.append(part.name)
        elif not isinstance(part, ast.Pass):
            yield f"L5 line {part.lineno}: neither a method nor pass"
    if len(set(methods)) != len(methods):
        yield f"L18 line {node.lineno}: a method twice"


def function_faults(node):
    plan = node.args
    names = [argument.arg for argument in plan.posonlyargs + plan.args]
    if plan.vararg or plan.kwarg or plan.kwonlyargs or plan.posonlyargs:
        yield f"L4 line {node.lineno}: parameters that are not plain"
    for name in names:
        if name in BUILTIN_NAMES or name.startswith("_"):
            yield f"L15 line {node.lineno}: a parameter called {name}"
    if isinstance(node, ast.FunctionDef):
        if node.decorator_list:
            yield f"L4 line {node.lineno}: a decorator"
        if node.end_lineno - node.lineno + 1 > 40:
            yield f"L10 line {node.lineno}: a function of more than 40 lines"
        if node.name.startswith("_") and node.name not in SPECIAL:
            yield f"L12 line {node.lineno}: {node.name}"


def name_faults(node):
    if isinstance(node.ctx, ast.Store) and node.id in BUILTIN_NAMES:
        yield f"L15 line {node.lineno}: a local called {node.id}"
    if node.id in BANNED_NAMES or (node.id in BUILTIN_NAMES and node.id not in OWN_NAMES):
        yield f"L8 line {node.lineno}: {node.id}"
    if node.id.startswith("_"):
        yield f"L12 line {node.lineno}: {node.id}"


def call_faults(node, methods):
    name = node.func.attr if isinstance(node.func, ast.Attribute) else ""
    if name and name not in OWN_METHODS and name not in methods and name not in SPECIAL:
        yield f"L25 line {node.lineno}: {name}"
    if any(isinstance(part, ast.Starred) for part in node.args) or any(part.arg is None for part in node.keywords):
        yield f"L7 line {node.lineno}: a star"


def statement_faults(node):
    if not isinstance(node, STATEMENTS):
        yield f"L6 line {node.lineno}: {node.__class__.__name__}"
    if isinstance(node, ast.Assign) and len(node.targets) > 1:
        yield f"L6 line {node.lineno}: more than one target"
    if isinstance(node, (ast.For, ast.While)) and node.orelse:
        yield f"L6 line {node.lineno}: else behind a loop"
    if isinstance(node, ast.Try) and (node.finalbody or any(part.type is None for part in node.handlers)):
        yield f"L6 line {node.lineno}: finally, or except without a name"
    if isinstance(node, ast.Expr) and not isinstance(node.value, ast.Call) and not is_docstring(node):
        yield f"L6 line {node.lineno}: a value by itself"


def expression_faults(node):
    if not isinstance(node, EXPRESSIONS):
        yield f"L7 line {node.lineno}: {node.__class__.__name__}"
    if isinstance(node, ast.Constant) and not isinstance(node.value, (int, str, type(None))):
        yield f"L7 line {node.lineno}: a value that is not allowed"
    if isinstance(node, ast.Constant) and isinstance(node.value, str) and "%" in node.value:
        yield f"L27 line {node.lineno}: a text with a sign that is not allowed"
    if isinstance(node, ast.BinOp) and isinstance(node.op, (ast.Div, ast.MatMult)):
        yield f"L7 line {node.lineno}: an operator that is not allowed"
    if isinstance(node, ast.BinOp) and isinstance(node.op, ast.Pow) and not isinstance(node.right, ast.Constant):
        yield f"L27 line {node.lineno}: an exponent that is not written out"
    if isinstance(node, ast.ListComp) and (len(node.generators) > 1 or len(node.generators[0].ifs) > 1):
        yield f"L7 line {node.lineno}: more than one for or if"
    if isinstance(node, ast.Compare) and any(isinstance(op, (ast.Is, ast.IsNot)) for op in node.ops):
        if not (isinstance(node.comparators[0], ast.Constant) and node.comparators[0].value in (None, True, False)):
            yield f"L20 line {node.lineno}: is"
    if isinstance(node, ast.Attribute) and (node.attr in BANNED_NAMES or node.attr.startswith("_")):
        if node.attr not in SPECIAL:
            yield f"L17 line {node.lineno}: {node.attr}"


def faults_of(text, methods=()):
    """All faults of a file; methods are the names of the package's own methods."""
    faults = list(file_faults(text))
    tree = ast.parse(text)
    faults.extend(top_faults(tree))
    for node in ast.walk(tree):
        if isinstance(node, ast.stmt):
            faults.extend(statement_faults(node))
        if isinstance(node, ast.expr):
            faults.extend(expression_faults(node))
        if isinstance(node, ast.ClassDef):
            faults.extend(class_faults(node))
        if isinstance(node, (ast.FunctionDef, ast.Lambda)):
            faults.extend(function_faults(node))
        if isinstance(node, ast.Name):
            faults.extend(name_faults(node))
        if isinstance(node, ast.Call):
            faults.extend(call_faults(node, methods))
    return faults


def methods_and_values(texts):
    methods, values = set(), set()
    for text in texts:
        for node in ast.walk(ast.parse(text)):
            if isinstance(node, ast.ClassDef):
                methods.update(part.name for part in node.body if isinstance(part, ast.FunctionDef))
            if isinstance(node, ast.Attribute) and isinstance(node.ctx, ast.Store):
                values.add(node.attr)
    return methods, values


def drawn_from(text):
    return [node.module.split(".")[1] for node in ast.parse(text).body if isinstance(node, ast.ImportFrom)]


def package_texts():
    return {path.name: path.read_bytes().decode("ascii") for path in sorted(PACKAGE.glob("*.py"))}


class Package(unittest.TestCase):
    def test_files(self):
        names = sorted(path.name for path in PACKAGE.iterdir() if path.name != "__pycache__")
        self.assertIn("__init__.py", names)
        for name in names:
            with self.subTest(name=name):
                self.assertRegex(name, r"\A([a-z][a-z0-9_]*|__init__|__main__)\.py\Z")
                self.assertNotRegex(name, r"\A(test|tests|testing|test_.*|site|conftest)\.py\Z")
                self.assertNotIn(name[:-3], BUILTIN_NAMES)

    def test_each_file(self):
        texts = package_texts()
        methods = methods_and_values(texts.values())[0]
        for name, text in texts.items():
            with self.subTest(name=name):
                self.assertEqual(faults_of(text, methods), [])

    def test_no_name_is_a_method_and_a_value(self):
        methods, values = methods_and_values(package_texts().values())
        self.assertEqual(sorted(methods & values), [])

    def test_no_two_files_draw_from_one_another(self):
        draws = {name[:-3]: drawn_from(text) for name, text in package_texts().items()}
        self.assertEqual(draws["__init__"], [])
        while draws:
            free = [name for name, others in draws.items() if not set(others) & set(draws)]
            self.assertTrue(free, f"a ring among {sorted(draws)}")
            draws = {name: others for name, others in draws.items() if name not in free}


class Checker(unittest.TestCase):
    """A check that finds nothing is worth nothing: each slip here must be found."""

    SLIPS = (
        ("L2", "from os.path import join\n"),
        ("L2", "from .errors import NoRules\n"),
        ("L3", "GREATEST = 10 ** 6\n"),
        ("L3", "print(1)\n"),
        ("L4", "def one(*all_of):\n    return 1\n"),
        ("L5", "class One:\n    value = 1\n"),
        ("L6", "import os\n"),
        ("L6", "def one(x):\n    assert x\n"),
        ("L6", "def one(x):\n    a = b = x\n"),
        ("L7", "def one(x):\n    return x / 2\n"),
        ("L7", "def one(x):\n    return 0.5\n"),
        ("L7", "def one(x):\n    return {y: 1 for y in x}\n"),
        ("L8", "def one(x):\n    return hash(x)\n"),
        ("L10", "def one(x):\n" + "    x = x\n" * 40),
        ("L10", "# " + "x" * 119 + "\n"),
        ("L12", "def _one(x):\n    return x\n"),
        ("L14", "# \u00e9\n"),
        ("L14", "# \t\n"),
        ("L15", "def one(x):\n    return x\n\n\ndef one(y):\n    return y\n"),
        ("L15", "def one(max):\n    return max\n"),
        ("L17", "# the type\n"),
        ("L18", "class One:\n    def two(self):\n        pass\n\n    def two(self):\n        pass\n"),
        ("L20", "def one(x, y):\n    return x is y\n"),
        ("L25", "def one(x):\n    x.sort()\n"),
        ("L27", "def one(x):\n    return 2 ** x\n"),
    )

    def test_slips_are_found(self):
        for rule, text in self.SLIPS:
            with self.subTest(rule=rule, text=text):
                self.assertIn(rule, [fault.split(" ")[0] for fault in faults_of(text)])

    def test_plain_code_has_no_fault(self):
        text = '"""One."""\n\nfrom wakeorder.errors import NoRules\n\nMOST = 6\n\n\n' \
            'def one(rows):\n    return [len(row) for row in rows if row is not None]\n'
        self.assertEqual(faults_of(text), [])


if __name__ == "__main__":
    unittest.main()
