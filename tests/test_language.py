"""The package keeps to the small part of Python that the project is written in, as far as is looked at here.

Not looked at is L11, and of L15, L17 to L19, L22, L23 and L27 only what a single statement or value
shows: these are for the reader.
"""

import ast
import builtins
import pathlib
import re
import unittest

PACKAGE = pathlib.Path(__file__).resolve().parent.parent / "lampforge"

STATEMENTS = (ast.FunctionDef, ast.ClassDef, ast.ImportFrom, ast.Assign, ast.AugAssign, ast.If, ast.While, ast.For,
              ast.Return, ast.Break, ast.Continue, ast.Pass, ast.Raise, ast.Try, ast.Expr)
VALUES = (ast.Constant, ast.List, ast.Tuple, ast.Dict, ast.BinOp, ast.UnaryOp, ast.Compare, ast.BoolOp, ast.IfExp,
          ast.Call, ast.Attribute, ast.Subscript, ast.Slice, ast.ListComp, ast.JoinedStr, ast.FormattedValue,
          ast.Name, ast.Lambda)
OTHERS = (ast.Module, ast.arguments, ast.arg, ast.keyword, ast.alias, ast.comprehension, ast.ExceptHandler,
          ast.expr_context, ast.operator, ast.unaryop, ast.cmpop, ast.boolop)
OWN_NAMES = set("""len range enumerate zip min max sum abs sorted reversed int str bool list tuple dict set frozenset
    isinstance ord repr any all divmod Exception ValueError TypeError KeyError IndexError LookupError
    ZeroDivisionError ArithmeticError OverflowError RuntimeError NotImplementedError AttributeError
    StopIteration""".split())
OWN_METHODS = set("""append clear copy count endswith extend find get index insert isalnum isalpha isdigit islower
    isspace isupper items join keys ljust lower lstrip partition pop remove replace reverse rfind rjust rpartition
    rsplit rstrip setdefault split splitlines startswith strip update upper values zfill bit_length""".split())
NOWHERE = set("""register mro elements open input version_info with_traceback add_note format format_map""".split())
NO_WORDS = set("""type typing typing_extensions enum Enum IntEnum StrEnum Flag IntFlag Generic Protocol ABC ABCMeta
    namedtuple NamedTuple TypedDict TYPE_CHECKING abstractmethod""".split())
KEYWORDS = {"sorted": {"key", "reverse"}, "min": {"key", "default"}, "max": {"key", "default"}, "sum": {"start"},
            "enumerate": {"start"}, "zip": {"strict"}}
UNDERSCORED = {"__init__", "__eq__", "__repr__", "__str__", "__len__"}
LAZY = ("zip", "enumerate", "reversed", "range")
LAZY_METHODS = ("items", "keys", "values")
WALKERS = ("list", "tuple", "dict", "sorted", "sum", "any", "all", "enumerate", "zip")
OWN_VALUES = set("count index title find get join lower upper split strip copy add".split())
TAKEN = {name for kind in (str, int, list, dict, set, bytes, tuple, bool) for name in dir(kind)}
CHECKED = ("int", "str", "bool", "list", "tuple", "dict")


def faults_of_text(text):
    """Faults that the signs, rows and words of a file show."""
    faults = []
    rows = text.split("\n")
    if len(rows) - 1 > 400:
        faults.append("L10 a long file")
    for number, row in enumerate(rows, start=1):
        if len(row) > 120:
            faults.append(f"L10 row {number} is long")
        if any(not " " <= sign <= "~" for sign in row):
            faults.append(f"L14 row {number} has another sign")
        words = set(re.findall(r"\w+", row))
        if words & NO_WORDS or re.search("dataclass|overload|contextmanager", row):
            faults.append(f"L17 row {number} has a word that stands nowhere")
    return faults


def plain(node, above):
    """Whether a value of a file's top is plain, lists and dicts holding none of their like."""
    if isinstance(node, ast.Constant):
        return node.value is None or isinstance(node.value, (int, str))
    if isinstance(node, ast.UnaryOp):
        return isinstance(node.op, ast.USub) and plain(node.operand, above)
    if isinstance(node, ast.Name):
        return node.id in above
    if isinstance(node, (ast.List, ast.Tuple)):
        inner = node.elts
    elif isinstance(node, ast.Dict):
        inner = node.keys + node.values
    else:
        return False
    within = [piece for thing in inner for piece in ast.walk(thing)]
    if not isinstance(node, ast.Tuple) and any(isinstance(piece, (ast.List, ast.Dict)) for piece in within):
        return False
    return all(plain(thing, above) for thing in inner)


def faults_of_top(tree):
    """Faults in what stands at a file's top."""
    faults = []
    bound = []
    defs = []
    for place, node in enumerate(tree.body):
        if isinstance(node, ast.Expr) and place == 0 and isinstance(node.value, ast.Constant):
            continue
        if isinstance(node, ast.ImportFrom):
            bound.extend(alias.name for alias in node.names)
        elif isinstance(node, (ast.FunctionDef, ast.ClassDef)):
            bound.append(node.name)
            defs.append(node.name)
        elif isinstance(node, ast.Assign) and isinstance(node.targets[0], ast.Name) and plain(node.value, defs):
            bound.append(node.targets[0].id)
        else:
            faults.append(f"L3 row {node.lineno} is not for a file's top")
    if len(bound) != len(set(bound)):
        faults.append("L15 a name of the top is bound twice")
    return faults


def faults_of_def(node):
    """Faults of a def, its parameters and its length."""
    faults = []
    told = node.args
    if told.vararg or told.kwarg or told.kwonlyargs or told.posonlyargs or getattr(node, "decorator_list", []):
        faults.append(f"L4 row {node.lineno}: parameters are plain, decorators none")
    if not all(plain(value, ()) for value in told.defaults):
        faults.append(f"L4 row {node.lineno}: a default that is not plain")
    if any(argument.annotation for argument in told.args) or getattr(node, "returns", None):
        faults.append(f"L21 row {node.lineno}: an annotation")
    if node.end_lineno - node.lineno + 1 > 40:
        faults.append(f"L10 row {node.lineno}: a long def")
    return faults


def faults_of_class(node):
    """Faults of a class and of what stands in it."""
    faults = []
    if len(node.bases) > 1 or node.keywords or node.decorator_list:
        faults.append(f"L5 row {node.lineno}: one base at most, no decorator")
    names = [thing.name for thing in node.body if isinstance(thing, ast.FunctionDef)]
    if len(names) != len(set(names)):
        faults.append(f"L18 row {node.lineno}: a method stands twice")
    for place, thing in enumerate(node.body):
        docstring = place == 0 and isinstance(thing, ast.Expr) and isinstance(thing.value, ast.Constant)
        if not docstring and not isinstance(thing, (ast.FunctionDef, ast.Pass)):
            faults.append(f"L5 row {thing.lineno}: a value in a class")
    return faults


def is_plain_name(name):
    return name in UNDERSCORED or re.fullmatch(r"[A-Za-z][A-Za-z0-9_]*", name) is not None


def faults_of_names(tree):
    """Faults of names: how they are written, and whether a file's defs know them."""
    faults = []
    stored = set()
    for node in ast.walk(tree):
        if isinstance(node, ast.arg):
            stored.add((node.arg, node.lineno))
        elif isinstance(node, ast.Name) and not isinstance(node.ctx, ast.Load):
            stored.add((node.id, node.lineno))
        elif isinstance(node, (ast.FunctionDef, ast.ClassDef)):
            stored.add((node.name, node.lineno))
        elif isinstance(node, ast.ExceptHandler) and node.name:
            stored.add((node.name, node.lineno))
    drawn = {alias.name for node in ast.walk(tree) if isinstance(node, ast.ImportFrom) for alias in node.names}
    methods = {thing.name for node in ast.walk(tree) if isinstance(node, ast.ClassDef) for thing in node.body
               if isinstance(thing, ast.FunctionDef)}
    for name, row in stored:
        if not is_plain_name(name):
            faults.append(f"L12 row {row}: {name}")
        if (name in dir(builtins) or name in drawn) and name not in methods:
            faults.append(f"L15 row {row}: {name} has another meaning")
    known = {name for name, row in stored} | drawn | OWN_NAMES
    for node in ast.walk(tree):
        if isinstance(node, ast.Name) and node.id not in known:
            faults.append(f"L8 row {node.lineno}: {node.id}")
        if isinstance(node, ast.Name) and node.id in NOWHERE or isinstance(node, ast.Attribute) and node.attr in NOWHERE:
            faults.append(f"L17 row {node.lineno}: a name that is not used")
    return faults


def faults_of_import(node):
    module = node.module or ""
    if node.level or not re.fullmatch(r"lampforge\.[a-z][a-z0-9_]*", module):
        return [f"L2 row {node.lineno}: only the package's own modules"]
    if any(alias.name == "*" or alias.asname for alias in node.names):
        return [f"L2 row {node.lineno}: names as they are"]
    return []


def faults_of_value(node):
    """Faults that a single value shows."""
    if isinstance(node, ast.Constant) and not (node.value is None or isinstance(node.value, (int, str))):
        return [f"L7 row {node.lineno}: a value of another kind"]
    if isinstance(node, ast.Constant) and isinstance(node.value, str) and "%" in node.value:
        return [f"L27 row {node.lineno}: a text with a percent sign"]
    if isinstance(node, ast.BinOp) and isinstance(node.op, (ast.Div, ast.MatMult)):
        return [f"L7 row {node.lineno}: an operator"]
    if isinstance(node, ast.BinOp) and isinstance(node.op, ast.Pow):
        if not (isinstance(node.right, ast.Constant) and node.right.value in range(65)):
            return [f"L27 row {node.lineno}: an exponent that is not written"]
    if isinstance(node, ast.ListComp) and (len(node.generators) > 1 or len(node.generators[0].ifs) > 1):
        return [f"L7 row {node.lineno}: one for and one if"]
    if isinstance(node, ast.FormattedValue):
        if not isinstance(node.value, ast.Name) or node.conversion not in (-1, 114) or node.format_spec:
            return [f"L7 row {node.lineno}: plain names in f-strings"]
    if isinstance(node, ast.Compare) and any(isinstance(op, (ast.Is, ast.IsNot)) for op in node.ops):
        sides = [node.left] + node.comparators
        if not any(isinstance(side, ast.Constant) and side.value in (None, True, False) for side in sides):
            return [f"L20 row {node.lineno}: is beside None, True and False alone"]
    return []


def faults_of_call(node, methods, above):
    """Faults of a call: its keywords, its method, and where it stands."""
    if isinstance(node.func, ast.Attribute):
        if node.func.attr not in OWN_METHODS | methods | {"__init__"}:
            return [f"L25 row {node.lineno}: the method {node.func.attr}"]
        if node.func.attr in LAZY_METHODS and not is_walked(node, above):
            return [f"L23 row {node.lineno}: {node.func.attr} is kept"]
        return []
    if not isinstance(node.func, ast.Name):
        return []
    name = node.func.id
    if name in OWN_NAMES and {word.arg for word in node.keywords} - KEYWORDS.get(name, set()):
        return [f"L22 row {node.lineno}: a keyword"]
    if name in LAZY and not is_walked(node, above):
        return [f"L23 row {node.lineno}: {name} is kept"]
    if name in ("set", "frozenset") and not is_set_place(above):
        return [f"L24 row {node.lineno}: a set is kept"]
    if name == "isinstance" and not is_kind(node.args[1]):
        return [f"L22 row {node.lineno}: another kind"]
    return []


def is_walked(node, above):
    """Whether a call of what is walked stands where it is walked on the spot."""
    if isinstance(above, (ast.For, ast.comprehension)):
        return above.iter is node
    if not isinstance(above, ast.Call) or not above.args or above.args[0] is not node:
        return False
    if isinstance(above.func, ast.Name):
        return above.func.id in WALKERS or above.func.id in ("min", "max") and len(above.args) == 1
    return isinstance(above.func, ast.Attribute) and above.func.attr == "join" and isinstance(above.func.value, ast.Constant)


def is_set_place(above):
    """Whether a set may stand within a node: beside in, == and !=, or straight within sorted and len."""
    if isinstance(above, ast.Compare):
        return all(isinstance(op, (ast.In, ast.NotIn, ast.Eq, ast.NotEq)) for op in above.ops)
    return (isinstance(above, ast.Call) and isinstance(above.func, ast.Name) and above.func.id in ("sorted", "len")
            and not above.keywords)


def is_kind(node):
    """Whether a node may be asked for by isinstance: a kind of Python's own, or a class by its capital letter."""
    if isinstance(node, ast.Tuple):
        return all(is_kind(piece) for piece in node.elts)
    return isinstance(node, ast.Name) and (node.id in CHECKED or node.id[0].isupper())


def faults_of_object(node):
    """Faults in the names of a class's methods and values, and in its __init__."""
    faults = []
    for thing in node.body:
        if isinstance(thing, ast.FunctionDef):
            if thing.name in TAKEN and thing.name not in OWN_METHODS | UNDERSCORED | {"add", "discard"}:
                faults.append(f"L26 row {thing.lineno}: the method {thing.name}")
            if thing.name == "__init__" and any(isinstance(piece, ast.Return) for piece in ast.walk(thing)):
                faults.append(f"L28 row {thing.lineno}: __init__ gives something back")
    for piece in ast.walk(node):
        if isinstance(piece, ast.Attribute) and isinstance(piece.ctx, ast.Store):
            if piece.attr in TAKEN | {"args"} and piece.attr not in OWN_VALUES:
                faults.append(f"L26 row {piece.lineno}: the value {piece.attr}")
    return faults


def faults_of_lambdas(tree):
    """Faults of lambdas with the same parameters on one row."""
    seen, faults = set(), []
    for node in ast.walk(tree):
        if isinstance(node, ast.Lambda):
            mark = (node.lineno, tuple(argument.arg for argument in node.args.args))
            if mark in seen:
                faults.append(f"L13 row {node.lineno}: two lambdas alike")
            seen.add(mark)
    return faults


def faults_of_statement(node):
    """Faults that a single statement shows."""
    if isinstance(node, (ast.For, ast.While)) and node.orelse or isinstance(node, ast.Try) and node.finalbody:
        return [f"L6 row {node.lineno}: else behind a loop, or finally"]
    if isinstance(node, ast.Assign) and len(node.targets) > 1:
        return [f"L6 row {node.lineno}: one target"]
    if isinstance(node, ast.ExceptHandler):
        taken = [name.id for name in ast.walk(node.type) if isinstance(name, ast.Name)] if node.type else []
        if not taken or "Exception" in taken or "TypeError" in taken:
            return [f"L19 row {node.lineno}: named error classes"]
    if isinstance(node, ast.Expr) and not isinstance(node.value, (ast.Call, ast.Constant)):
        return [f"L6 row {node.lineno}: a call by itself"]
    return []


def faults_of(text, methods=frozenset()):
    """All faults found in the text of a file, `methods` being those of the package's classes."""
    tree = ast.parse(text)
    faults = faults_of_text(text) + faults_of_top(tree) + faults_of_names(tree) + faults_of_lambdas(tree)
    above = {child: node for node in ast.walk(tree) for child in ast.iter_child_nodes(node)}
    for node in ast.walk(tree):
        if not isinstance(node, STATEMENTS + VALUES + OTHERS):
            faults.append(f"L6, L7: {node.__class__.__name__}")
        if isinstance(node, (ast.FunctionDef, ast.Lambda)):
            faults.extend(faults_of_def(node))
        if isinstance(node, ast.ClassDef):
            faults.extend(faults_of_class(node) + faults_of_object(node))
        if isinstance(node, ast.ImportFrom):
            faults.extend(faults_of_import(node))
        if isinstance(node, ast.Call):
            faults.extend(faults_of_call(node, methods, above[node]))
        faults.extend(faults_of_value(node))
        faults.extend(faults_of_statement(node))
    return faults


def files():
    return {path.stem: path.read_bytes().decode("utf-8") for path in sorted(PACKAGE.glob("*.py"))}


def top_names(text):
    """The names that a file defines at its top."""
    names = set()
    for node in ast.parse(text).body:
        if isinstance(node, (ast.FunctionDef, ast.ClassDef)):
            names.add(node.name)
        elif isinstance(node, ast.Assign):
            names.add(node.targets[0].id)
    return names


def draws(text):
    """The files that a file draws from, with the names."""
    return [(node.module.split(".")[1], alias.name) for node in ast.parse(text).body
            if isinstance(node, ast.ImportFrom) for alias in node.names]


class PackageTest(unittest.TestCase):
    def test_each_file(self):
        texts = files()
        self.assertIn("__init__", texts)
        methods = {thing.name for text in texts.values() for node in ast.parse(text).body
                   if isinstance(node, ast.ClassDef) for thing in node.body if isinstance(thing, ast.FunctionDef)}
        for name, text in texts.items():
            with self.subTest(name):
                self.assertEqual(faults_of(text, methods), [])

    def test_nothing_else_lies_there(self):
        for path in PACKAGE.iterdir():
            if path.name != "__pycache__":
                self.assertRegex(path.name, r"\A([a-z][a-z0-9_]*|__init__|__main__)\.py\Z")
                self.assertFalse(path.stem in dir(builtins), path.name)
                self.assertFalse(path.stem.startswith("test"), path.name)

    def test_names_are_drawn_from_where_they_are_defined(self):
        texts = files()
        for text in texts.values():
            for module, name in draws(text):
                self.assertIn(name, top_names(texts[module]))

    def test_no_two_files_draw_from_one_another(self):
        waits = {name: {module for module, drawn in draws(text)} for name, text in files().items()}
        while waits:
            free = [name for name in waits if not waits[name] & set(waits)]
            self.assertTrue(free, waits)
            waits = {name: waits[name] for name in waits if name not in free}

    def test_no_name_is_a_method_and_a_value(self):
        methods, values = set(), set()
        for text in files().values():
            for node in ast.walk(ast.parse(text)):
                if isinstance(node, ast.ClassDef):
                    methods.update(thing.name for thing in node.body if isinstance(thing, ast.FunctionDef))
                if isinstance(node, ast.Attribute) and isinstance(node.ctx, ast.Store):
                    values.add(node.attr)
        self.assertEqual(methods & values, set())


class FaultTest(unittest.TestCase):
    """The look itself: what is outside the rules is found."""

    def test_plain_code_has_no_fault(self):
        text = '"""A file."""\n\nfrom lampforge.words import is_whole\n\nMOST = 3\n\n\ndef f(a, b=1):\n    """Why."""\n'
        text += "    c = [x for x in range(a) if is_whole(x)]\n    return len(c) + b\n"
        self.assertEqual(faults_of(text), [])

    def test_each_fault_is_found(self):
        bodies = ("x = 1 / 2", "x = 2 ** a", "x = 1.5", "x = {1, 2}", "x = {k: 1 for k in a}", "x = (k for k in a)",
                  "x = y = 1", "with a:\n        pass", "assert a", "x = open(a)", "x = chr(a)", "global a", "del a",
                  "x = zip(a, a)", "x = set(a)", "x = a.sort()", "x = a is b", "x = getattr(a, 'b')", "len = 1",
                  "try:\n        f()\n    except Exception:\n        pass", "x = f'{a + 1}'", "x = '%'", "_x = 1",
                  "x = [k for k in a for m in k]", "x = sorted(*a)", "import sys", "x = (y := a)", "yield a",
                  "type = 1", "x = 'caf\u00e9'", "for x in a:\n        pass\n    else:\n        pass", "a == 1",
                  "x = str(a, encoding='b')", "x = unknown", "x = '" + "a" * 120 + "'", "x = len(zip(a, b))",
                  "x = zip(a, range(b))", "x = a in range(b)", "x = a.items()", "x = sorted(set(a), key=len)",
                  "x = list(set(a))", "x = isinstance(a, set)", "x = (lambda k: k)(a) + (lambda k: k)(b)")
        for body in bodies:
            with self.subTest(body):
                self.assertNotEqual(faults_of("def f(a, b):\n    " + body + "\n"), [])

    def test_each_fault_of_the_top_is_found(self):
        texts = ("import os\n", "from os import path\n", "from lampforge import words\n", "A = [1]\nA = [2]\n",
                 "A = [[1]]\n", "A = f()\n", "print(1)\n", "class C:\n    x = 1\n", "def f(*a):\n    pass\n",
                 "def f():\n" + "    pass\n" * 40, "A = 1\n" * 401, "from lampforge.words import *\n",
                 "@f\ndef g():\n    pass\n", "def f(a=[[1]]):\n    pass\n", "def f(a: int):\n    pass\n",
                 "class C:\n    def sort(self):\n        pass\n", "class C:\n    def f(self):\n        self.args = 1\n",
                 "class C:\n    def __init__(self):\n        return None\n",
                 "class C:\n    def f(self):\n        self.real = 1\n")
        for text in texts:
            with self.subTest(text[:40]):
                self.assertNotEqual(faults_of(text), [])


if __name__ == "__main__":
    unittest.main()
