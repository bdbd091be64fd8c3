"""The form of the package's files: the rules of the language that can be read off a file.

It sees the common slips, each named by its rule, and not all that the rules ask for.
"""

import ast
import pathlib
import re
import unittest

PACKAGE = pathlib.Path(__file__).resolve().parent.parent / "wakeorder"

STATEMENTS = (
    ast.Assign, ast.AugAssign, ast.If, ast.While, ast.For, ast.Return, ast.Break, ast.Continue, ast.Pass,
    ast.Raise, ast.Try, ast.Expr, ast.FunctionDef, ast.ClassDef, ast.ImportFrom,
)
EXPRESSIONS = (
    ast.Constant, ast.List, ast.Tuple, ast.Dict, ast.Set, ast.BinOp, ast.UnaryOp, ast.BoolOp, ast.Compare,
    ast.IfExp, ast.Call, ast.Attribute, ast.Subscript, ast.Slice, ast.ListComp, ast.JoinedStr,
    ast.FormattedValue, ast.Lambda, ast.Name,
)
OWN_NAMES = set(
    "len range enumerate zip min max sum abs sorted reversed int str bool list tuple dict set frozenset"
    " isinstance ord repr any all divmod Exception ValueError TypeError KeyError IndexError LookupError"
    " ZeroDivisionError ArithmeticError OverflowError RuntimeError NotImplementedError AttributeError"
    " StopIteration".split()
)
OWN_METHODS = set(
    "append clear copy count endswith extend find get index insert isalnum isalpha isdigit islower isspace"
    " isupper items join keys ljust lower lstrip partition pop remove replace reverse rfind rjust"
    " rpartition rsplit rstrip setdefault split splitlines startswith strip update upper values zfill"
    " bit_length".split()
)
SPECIAL = set("__init__ __eq__ __repr__ __str__ __len__".split())
BANNED_NAMES = set(
    "register mro elements open input version_info with_traceback add_note attrgetter breakpoint builtins"
    " compile copyright credits delattr dir eval exec exit gc getattr globals hasattr help id importlib"
    " license locals methodcaller os quit setattr super vars sys format format_map chr".split()
)
BANNED_WORDS = re.compile(
    r"\b(type|typing|typing_extensions|enum|Enum|IntEnum|StrEnum|Flag|IntFlag|Generic|Protocol|ABC|ABCMeta"
    r"|namedtuple|NamedTuple|TypedDict|TYPE_CHECKING|abstractmethod)\b|dataclass|overload|contextmanager"
)
BUILTIN_NAMES = set(dir(__import__("builtins")))
KEYWORDS = {
    "sorted": ("key", "reverse"), "min": ("key", "default"), "max": ("key", "default"), "sum": ("start",),
    "enumerate": ("start",), "zip": ("strict",),
}
WALKED = ("zip", "enumerate", "reversed", "range", "items", "keys", "values")
WALKERS = ("list", "tuple", "dict", "sorted", "sum", "any", "all", "enumerate", "zip")
CHANGERS = ("append", "clear", "extend", "insert", "pop", "remove", "reverse", "setdefault", "update")


def file_faults(text):
    rows = text.split("\n")
    if len(rows) > 401:
        yield "L10 a file of more than 400 lines"
    for number, row in enumerate(rows, start=1):
        if len(row) > 120:
            yield f"L10 line {number}: too long"
        if any(not " " <= sign <= "~" for sign in row):
            yield f"L14 line {number}: a sign that is not allowed"
        if BANNED_WORDS.search(row):
            yield f"L17 line {number}: a word that is not used"


def is_docstring(node):
    return isinstance(node, ast.Expr) and isinstance(node.value, ast.Constant) and isinstance(node.value.value, str)


def top_faults(tree):
    bound = []
    for place, node in enumerate(tree.body):
        if isinstance(node, ast.ImportFrom):
            if node.level or not (node.module or "").startswith("wakeorder.") or node.module == "wakeorder.__main__":
                yield f"L2 line {node.lineno}: not from the package's own files"
            if any(alias.name == "*" for alias in node.names):
                yield f"L2 line {node.lineno}: a star"
            bound.extend(alias.asname or alias.name for alias in node.names)
        elif isinstance(node, (ast.FunctionDef, ast.ClassDef)):
            bound.append(node.name)
        elif isinstance(node, ast.Assign) and isinstance(node.targets[0], ast.Name):
            bound.append(node.targets[0].id)
            if any(isinstance(part, (ast.BinOp, ast.Call, ast.ListComp)) for part in ast.walk(node.value)):
                yield f"L3 line {node.lineno}: no plain value"
        elif not (place == 0 and is_docstring(node)):
            yield f"L3 line {node.lineno}: does not stand at a file's top"
    for name in sorted(set(bound)):
        if bound.count(name) > 1:
            yield f"L15 {name} is bound more than once"


def class_faults(node):
    methods = []
    if len(node.bases) > 1 or node.keywords or node.decorator_list:
        yield f"L5 line {node.lineno}: more than one plain base"
    for part in node.body:
        if isinstance(part, ast.FunctionDef):
            methods.append(part.name)
        elif not isinstance(part, ast.Pass):
            yield f"L5 line {part.lineno}: neither a method nor pass"
    if len(set(methods)) != len(methods):
        yield f"L18 line {node.lineno}: a method twice"


def function_faults(node):
    plan = node.args
    names = [argument.arg for argument in plan.posonlyargs + plan.args]
    if plan.vararg or plan.kwarg or plan.kwonlyargs or plan.posonlyargs:
        yield f"L4 line {node.lineno}: parameters that are not plain"
    for name in names:
        if name in BUILTIN_NAMES or name.startswith("_"):
            yield f"L15 line {node.lineno}: a parameter called {name}"
    if isinstance(node, ast.FunctionDef):
        if node.decorator_list:
            yield f"L4 line {node.lineno}: a decorator"
        if node.end_lineno - node.lineno + 1 > 40:
            yield f"L10 line {node.lineno}: a function of more than 40 lines"
        if node.name.startswith("_") and node.name not in SPECIAL:
            yield f"L12 line {node.lineno}: {node.name}"


def name_faults(node):
    if isinstance(node.ctx, ast.Store) and node.id in BUILTIN_NAMES:
        yield f"L15 line {node.lineno}: a local called {node.id}"
    if node.id in BANNED_NAMES or (node.id in BUILTIN_NAMES and node.id not in OWN_NAMES):
        yield f"L8 line {node.lineno}: {node.id}"
    if node.id.startswith("_"):
        yield f"L12 line {node.lineno}: {node.id}"


def call_faults(node, methods):
    name = node.func.attr if isinstance(node.func, ast.Attribute) else ""
    if name and name not in OWN_METHODS and name not in methods and name not in SPECIAL:
        yield f"L25 line {node.lineno}: {name}"
    if any(isinstance(part, ast.Starred) for part in node.args) or any(part.arg is None for part in node.keywords):
        yield f"L7 line {node.lineno}: a star"


def statement_faults(node, at_top):
    if not isinstance(node, STATEMENTS):
        yield f"L6 line {node.lineno}: {node.__class__.__name__}"
    if isinstance(node, ast.Assign) and len(node.targets) > 1:
        yield f"L6 line {node.lineno}: more than one target"
    if isinstance(node, (ast.For, ast.While)) and node.orelse:
        yield f"L6 line {node.lineno}: else behind a loop"
    if isinstance(node, ast.Try) and (node.finalbody or any(part.type is None for part in node.handlers)):
        yield f"L6 line {node.lineno}: finally, or except without a name"
    # A docstring stands at a module's top alone, where top_faults sees it.
    if isinstance(node, ast.Expr) and not isinstance(node.value, ast.Call) and not (is_docstring(node) and at_top):
        yield f"L6 line {node.lineno}: a value by itself"


def expression_faults(node):
    if not isinstance(node, EXPRESSIONS):
        yield f"L7 line {node.lineno}: {node.__class__.__name__}"
    if isinstance(node, ast.Constant) and not isinstance(node.value, (int, str, type(None))):
        yield f"L7 line {node.lineno}: a value that is not allowed"
    if isinstance(node, ast.Constant) and isinstance(node.value, str) and "%" in node.value:
        yield f"L27 line {node.lineno}: a text with a sign that is not allowed"
    if isinstance(node, ast.BinOp) and isinstance(node.op, (ast.Div, ast.MatMult)):
        yield f"L7 line {node.lineno}: an operator that is not allowed"
    if isinstance(node, ast.BinOp) and isinstance(node.op, ast.Pow) and not isinstance(node.right, ast.Constant):
        yield f"L27 line {node.lineno}: an exponent that is not written out"
    if isinstance(node, ast.ListComp) and (len(node.generators) > 1 or len(node.generators[0].ifs) > 1):
        yield f"L7 line {node.lineno}: more than one for or if"
    if isinstance(node, ast.Compare) and any(isinstance(op, (ast.Is, ast.IsNot)) for op in node.ops):
        if not (isinstance(node.comparators[0], ast.Constant) and node.comparators[0].value in (None, True, False)):
            yield f"L20 line {node.lineno}: is"
    if isinstance(node, ast.Attribute) and (node.attr in BANNED_NAMES or node.attr.startswith("_")):
        if node.attr not in SPECIAL:
            yield f"L17 line {node.lineno}: {node.attr}"


def called_name(node):
    if not isinstance(node, ast.Call):
        return ""
    return getattr(node.func, "id", getattr(node.func, "attr", ""))


def keyword_faults(node):
    for part in node.keywords:
        if isinstance(node.func, ast.Name) and node.func.id in BUILTIN_NAMES:
            if part.arg not in KEYWORDS.get(node.func.id, ()):
                yield f"L22 line {node.lineno}: {part.arg}"


def is_walked_at_once(node, above):
    if isinstance(above, (ast.For, ast.comprehension)):
        return above.iter is node
    name = called_name(above)
    if name in WALKERS:
        return above.args[0] is node
    return name in ("min", "max", "join") and above.args == [node]


def is_set_at_its_place(node, above):
    if isinstance(above, ast.BinOp):
        return True
    return isinstance(above, ast.Compare) or called_name(above) in ("sorted", "len")


def value_faults(tree):
    above = {part: node for node in ast.walk(tree) for part in ast.iter_child_nodes(node)}
    for node in ast.walk(tree):
        if isinstance(node, ast.Call):
            yield from keyword_faults(node)
        if called_name(node) in WALKED and not is_walked_at_once(node, above[node]):
            yield f"L23 line {node.lineno}: {called_name(node)} is kept"
        if called_name(node) in ("set", "frozenset") and not is_set_at_its_place(node, above[node]):
            yield f"L24 line {node.lineno}: a set is kept or walked"
        if isinstance(node, ast.Name) and node.id in OWN_NAMES and isinstance(above[node], (ast.Assign, ast.Return)):
            yield f"L22 line {node.lineno}: {node.id} is kept"


def walk_faults(tree):
    for loop in ast.walk(tree):
        if not isinstance(loop, ast.For):
            continue
        walked = [ast.unparse(loop.iter)]
        if called_name(loop.iter) in ("enumerate", "zip", "reversed"):
            walked = [ast.unparse(part) for part in loop.iter.args]
        elif called_name(loop.iter) in ("items", "keys", "values"):
            walked = [ast.unparse(loop.iter.func.value)]
        for node in ast.walk(loop):
            changed = ""
            if isinstance(node, ast.Subscript) and isinstance(node.ctx, ast.Store):
                changed = ast.unparse(node.value)
            elif called_name(node) in CHANGERS and isinstance(node.func, ast.Attribute):
                changed = ast.unparse(node.func.value)
            if changed in walked:
                yield f"L23 line {node.lineno}: {changed} is changed while it is walked"


def local_faults(tree):
    taken = [node.name for node in tree.body if isinstance(node, (ast.ClassDef, ast.FunctionDef))]
    for node in tree.body:
        if isinstance(node, ast.ImportFrom):
            taken.extend(alias.name for alias in node.names)
    for top in tree.body:
        if not isinstance(top, (ast.ClassDef, ast.FunctionDef)):
            continue
        for node in ast.walk(top):
            if isinstance(node, ast.arg) and node.arg in taken:
                yield f"L15 line {node.lineno}: {node.arg}"
            if isinstance(node, ast.Name) and isinstance(node.ctx, ast.Store) and node.id in taken:
                yield f"L15 line {node.lineno}: {node.id}"


def error_faults(node):
    for handler in node.handlers:
        names = handler.type.elts if isinstance(handler.type, ast.Tuple) else [handler.type]
        for name in names:
            if getattr(name, "id", "") in ("Exception", "TypeError"):
                yield f"L19 line {handler.lineno}: {name.id}"


def init_faults(node):
    for part in ast.walk(node):
        if node.name == "__init__" and isinstance(part, ast.Return) and part.value is not None:
            yield f"L28 line {part.lineno}: __init__ gives something back"


def faults_of(text, methods=()):
    """All faults of a file; methods are the names of the package's own methods."""
    faults = list(file_faults(text))
    tree = ast.parse(text)
    faults.extend(top_faults(tree))
    faults.extend(value_faults(tree))
    faults.extend(walk_faults(tree))
    faults.extend(local_faults(tree))
    for node in ast.walk(tree):
        if isinstance(node, ast.stmt):
            faults.extend(statement_faults(node, node in tree.body))
        if isinstance(node, ast.expr):
            faults.extend(expression_faults(node))
        if isinstance(node, ast.ClassDef):
            faults.extend(class_faults(node))
        if isinstance(node, (ast.FunctionDef, ast.Lambda)):
            faults.extend(function_faults(node))
        if isinstance(node, ast.FunctionDef):
            faults.extend(init_faults(node))
        if isinstance(node, ast.Try):
            faults.extend(error_faults(node))
        if isinstance(node, ast.Name):
            faults.extend(name_faults(node))
        if isinstance(node, ast.Call):
            faults.extend(call_faults(node, methods))
    return faults


def methods_and_values(texts):
    methods, values = set(), set()
    for text in texts:
        for node in ast.walk(ast.parse(text)):
            if isinstance(node, ast.ClassDef):
                methods.update(part.name for part in node.body if isinstance(part, ast.FunctionDef))
            if isinstance(node, ast.Attribute) and isinstance(node.ctx, ast.Store):
                values.add(node.attr)
    return methods, values


def drawn_from(text):
    return [node.module.split(".")[1] for node in ast.parse(text).body if isinstance(node, ast.ImportFrom)]


def defined_in(text):
    """The names that a file binds at its top by itself, not by an import."""
    names = []
    for node in ast.parse(text).body:
        if isinstance(node, (ast.FunctionDef, ast.ClassDef)):
            names.append(node.name)
        if isinstance(node, ast.Assign):
            names.append(node.targets[0].id)
    return names


def package_texts():
    return {path.name: path.read_bytes().decode("ascii") for path in sorted(PACKAGE.glob("*.py"))}


class Package(unittest.TestCase):
    def test_files(self):
        names = sorted(path.name for path in PACKAGE.iterdir() if path.name != "__pycache__")
        self.assertIn("__init__.py", names)
        for name in names:
            with self.subTest(name=name):
                self.assertRegex(name, r"\A([a-z][a-z0-9_]*|__init__|__main__)\.py\Z")
                self.assertNotRegex(name, r"\A(test|tests|testing|test_.*|site|conftest)\.py\Z")
                self.assertNotIn(name[:-3], BUILTIN_NAMES)

    def test_each_file(self):
        texts = package_texts()
        methods = methods_and_values(texts.values())[0]
        for name, text in texts.items():
            with self.subTest(name=name):
                self.assertEqual(faults_of(text, methods), [])

    def test_no_name_is_a_method_and_a_value(self):
        methods, values = methods_and_values(package_texts().values())
        self.assertEqual(sorted(methods & values), [])

    def test_each_import_is_from_the_file_that_defines_the_name(self):
        texts = package_texts()
        for name, text in texts.items():
            for node in ast.parse(text).body:
                if isinstance(node, ast.ImportFrom):
                    defined = defined_in(texts[node.module.split(".")[1] + ".py"])
                    for alias in node.names:
                        with self.subTest(name=name, drawn=alias.name):
                            self.assertIn(alias.name, defined)
                            self.assertIsNone(alias.asname)

    def test_no_two_files_draw_from_one_another(self):
        draws = {name[:-3]: drawn_from(text) for name, text in package_texts().items()}
        self.assertEqual(draws["__init__"], [])
        while draws:
            free = [name for name, others in draws.items() if not set(others) & set(draws)]
            self.assertTrue(free, f"a ring among {sorted(draws)}")
            draws = {name: others for name, others in draws.items() if name not in free}


class Checker(unittest.TestCase):
    """A check that finds nothing is worth nothing: each slip here must be found."""

    SLIPS = (
        ("L2", "from os.path import join\n"),
        ("L2", "from .errors import NoRules\n"),
        ("L3", "GREATEST = 10 ** 6\n"),
        ("L3", "print(1)\n"),
        ("L4", "def one(*all_of):\n    return 1\n"),
        ("L5", "class One:\n    value = 1\n"),
        ("L6", "import os\n"),
        ("L6", "def one(x):\n    assert x\n"),
        ("L6", 'def one(x):\n    """One."""\n    return x\n'),
        ("L6", "def one(x):\n    a = b = x\n"),
        ("L7", "def one(x):\n    return x / 2\n"),
        ("L7", "def one(x):\n    return 0.5\n"),
        ("L7", "def one(x):\n    return {y: 1 for y in x}\n"),
        ("L8", "def one(x):\n    return hash(x)\n"),
        ("L10", "def one(x):\n" + "    x = x\n" * 40),
        ("L10", "# " + "x" * 119 + "\n"),
        ("L12", "def _one(x):\n    return x\n"),
        ("L14", "# \u00e9\n"),
        ("L14", "# \t\n"),
        ("L15", "def one(x):\n    return x\n\n\ndef one(y):\n    return y\n"),
        ("L15", "def one(max):\n    return max\n"),
        ("L15", "from wakeorder.rules import Rules\n\n\ndef one(Rules):\n    return Rules\n"),
        ("L15", "def one(x):\n    return x\n\n\ndef two(x):\n    one = x\n    return one\n"),
        ("L17", "# the type\n"),
        ("L18", "class One:\n    def two(self):\n        pass\n\n    def two(self):\n        pass\n"),
        ("L19", "def one(x):\n    try:\n        return x()\n    except TypeError:\n        return 1\n"),
        ("L20", "def one(x, y):\n    return x is y\n"),
        ("L22", "def one(x):\n    return int(x, base=2)\n"),
        ("L22", "def one(x):\n    found = len\n    return found(x)\n"),
        ("L23", "def one(x):\n    return range(x)\n"),
        ("L23", "def one(x, y):\n    return y in range(x)\n"),
        ("L23", "def one(x):\n    return [y for y in reversed(range(x))]\n"),
        ("L23", "def one(x):\n    y = x.items()\n    return list(y)\n"),
        ("L23", "def one(x):\n    for y in x:\n        x.append(y)\n"),
        ("L23", "def one(x):\n    for k, y in enumerate(x):\n        x[k] = y\n"),
        ("L24", "def one(x):\n    return set(x)\n"),
        ("L24", "def one(x):\n    for y in set(x):\n        return y\n"),
        ("L25", "def one(x):\n    x.sort()\n"),
        ("L27", "def one(x):\n    return 2 ** x\n"),
        ("L28", "class One:\n    def __init__(self):\n        return None\n"),
    )

    def test_slips_are_found(self):
        for rule, text in self.SLIPS:
            with self.subTest(rule=rule, text=text):
                self.assertIn(rule, [fault.split(" ")[0] for fault in faults_of(text)])

    def test_plain_code_has_no_fault(self):
        text = '"""One."""\n\nfrom wakeorder.errors import NoRules\n\nMOST = 6\n\n\n' \
            'def one(rows):\n    return [len(row) for row in rows if row is not None]\n\n\n' \
            'def two(rows):\n    found = []\n    for place, row in enumerate(rows):\n' \
            '        found.append((place, max(row, default=0)))\n    return sorted(set(found), reverse=True)\n\n\n' \
            'def three(many):\n    return list(range(many)) + [3 for number in range(many)]\n'
        self.assertEqual(faults_of(text), [])


if __name__ == "__main__":
    unittest.main()
