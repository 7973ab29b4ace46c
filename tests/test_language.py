"""Whether the package's files keep to the rules of the language that can be seen in their text.

The rules' numbers are those of LANGUAGE.md. What needs more than one look at a file is left to the reader.
"""

import ast
import builtins
import keyword
import pathlib
import re
import unittest

PACKAGE = pathlib.Path(__file__).resolve().parent.parent / "pointsure"

ERRORS = """Exception ValueError TypeError KeyError IndexError LookupError ZeroDivisionError ArithmeticError
OverflowError RuntimeError NotImplementedError AttributeError StopIteration""".split()
ALLOWED_BUILTINS = ERRORS + """len range enumerate zip min max sum abs sorted reversed int str bool list tuple dict
set frozenset isinstance ord repr any all divmod""".split()
OWN_UNDERSCORES = "__init__ __eq__ __repr__ __str__ __len__ __all__ __version__".split()
ALLOWED_METHODS = """append clear copy count endswith extend find get index insert isalnum isalpha isdigit islower
isspace isupper items join keys ljust lower lstrip partition pop remove replace reverse rfind rjust rpartition rsplit
rstrip setdefault split splitlines startswith strip update upper values zfill bit_length add discard""".split()
NO_NAMES = """register mro elements open input version_info with_traceback add_note format format_map attrgetter
methodcaller importlib gc os sys typing""".split()
NO_WORDS = re.compile(r"\b(type|typing|typing_extensions|enum|Enum|IntEnum|StrEnum|Flag|IntFlag|Generic|Protocol|ABC"
                      r"|ABCMeta|namedtuple|NamedTuple|TypedDict|TYPE_CHECKING|abstractmethod)\b"
                      r"|dataclass|overload|contextmanager")
NO_NODES = """With Match Delete Global Nonlocal Assert Yield YieldFrom AsyncFunctionDef AsyncFor AsyncWith Await
SetComp DictComp GeneratorExp NamedExpr Starred Import AnnAssign TryStar Div MatMult TypeAlias""".split()
PLAIN_VALUES = (ast.Constant, ast.List, ast.Tuple, ast.Dict, ast.Name, ast.Load, ast.UnaryOp, ast.USub)
OWN_TO_VALUES = {name for one in (str, int, list, dict, set, bytes) for name in dir(one)}


def text_faults(text):
    faults = []
    lines = text.split("\n")
    if len(lines) > 401:
        faults.append("L10 a file of more than 400 lines")
    for number, line in enumerate(lines, 1):
        if len(line) > 120:
            faults.append(f"L10 line {number} is too long")
        if any(not " " <= sign <= "~" for sign in line):
            faults.append(f"L14 line {number} has another sign")
        if NO_WORDS.search(line):
            faults.append(f"L17 line {number} has a word that stands nowhere")
    return faults


def top_faults(tree):
    faults = []
    bound = []
    for number, node in enumerate(tree.body):
        if isinstance(node, (ast.FunctionDef, ast.ClassDef)):
            bound.append(node.name)
        elif isinstance(node, ast.Assign):
            bound.extend(one.id for one in node.targets if isinstance(one, ast.Name))
            if not all(isinstance(one, PLAIN_VALUES) for one in ast.walk(node.value)):
                faults.append(f"L3 line {node.lineno}: no plain value")
        elif isinstance(node, ast.ImportFrom):
            bound.extend(alias.asname or alias.name for alias in node.names)
        elif number or not (isinstance(node, ast.Expr) and isinstance(node.value, ast.Constant)):
            faults.append(f"L3 line {node.lineno}: not for the top of a file")
    if len(set(bound)) != len(bound):
        faults.append("L15 a name is bound twice at the top")
    return faults


def import_faults(tree):
    faults = []
    for node in ast.walk(tree):
        if isinstance(node, ast.ImportFrom):
            module = node.module or ""
            if node.level or node not in tree.body or not module.startswith("pointsure."):
                faults.append(f"L2 line {node.lineno}: no import of the package's own")
            if any(alias.name == "*" for alias in node.names):
                faults.append(f"L2 line {node.lineno}: import of all")
    return faults


def name_faults(tree):
    faults = []
    for node in ast.walk(tree):
        if isinstance(node, ast.Name):
            stored = isinstance(node.ctx, ast.Store)
            if node.id in vars(builtins) and (stored or node.id not in ALLOWED_BUILTINS):
                faults.append(f"L8 line {node.lineno}: {node.id}")
            names = [node.id]
        elif isinstance(node, ast.arg):
            if node.arg in vars(builtins):
                faults.append(f"L15 line {node.lineno}: {node.arg}")
            names = [node.arg]
        elif isinstance(node, (ast.FunctionDef, ast.ClassDef)):
            names = [node.name]
        elif isinstance(node, ast.Attribute):
            names = [node.attr]
            if node.attr in OWN_TO_VALUES and node.attr not in ALLOWED_METHODS + OWN_UNDERSCORES:
                faults.append(f"L25 line {node.lineno}: {node.attr}")
        else:
            continue
        for name in names:
            if name in NO_NAMES or (name.startswith("_") and name not in OWN_UNDERSCORES):
                faults.append(f"L12 or L17 line {node.lineno}: {name}")
    return faults


def function_faults(node):
    faults = []
    if node.end_lineno - node.lineno + 1 > 40:
        faults.append(f"L10 line {node.lineno}: a function of more than 40 lines")
    plain = node.args
    if plain.vararg or plain.kwarg or plain.kwonlyargs or plain.posonlyargs or node.decorator_list:
        faults.append(f"L4 line {node.lineno}: no plain function")
    return faults


def class_faults(node, tree):
    faults = []
    if len(node.bases) > 1 or node.keywords or node.decorator_list or node not in tree.body:
        faults.append(f"L5 line {node.lineno}: no plain class")
    for number, one in enumerate(node.body):
        docstring = number == 0 and isinstance(one, ast.Expr) and isinstance(one.value, ast.Constant)
        if not docstring and not isinstance(one, ast.FunctionDef):
            faults.append(f"L5 line {one.lineno}: not for a class")
    return faults


def node_faults(tree):
    faults = []
    for node in ast.walk(tree):
        line = getattr(node, "lineno", "?")
        if type(node).__name__ in NO_NODES:
            faults.append(f"L6 or L7 line {line}: {type(node).__name__}")
        if isinstance(node, ast.FunctionDef):
            faults.extend(function_faults(node))
        if isinstance(node, ast.ClassDef):
            faults.extend(class_faults(node, tree))
        if isinstance(node, (ast.For, ast.While)) and node.orelse or isinstance(node, ast.Try) and node.finalbody:
            faults.append(f"L6 line {line}: else or finally")
        if isinstance(node, ast.Assign) and len(node.targets) > 1:
            faults.append(f"L6 line {line}: several targets")
        if isinstance(node, ast.ListComp) and (len(node.generators) > 1 or len(node.generators[0].ifs) > 1):
            faults.append(f"L7 line {line}: more than one for or if")
        if isinstance(node, ast.Constant) and isinstance(node.value, (float, bytes, complex)):
            faults.append(f"L7 line {line}: {node.value!r}")
        if isinstance(node, ast.Constant) and isinstance(node.value, str) and "%" in node.value:
            faults.append(f"L27 line {line}: a sign within a text")
        if isinstance(node, ast.FormattedValue) and not isinstance(node.value, ast.Name):
            faults.append(f"L7 line {line}: no plain name in an f-string")
        if isinstance(node, ast.Compare) and any(isinstance(one, (ast.Is, ast.IsNot)) for one in node.ops):
            if not any(isinstance(one, ast.Constant) for one in [node.left] + node.comparators):
                faults.append(f"L20 line {line}: is")
        if isinstance(node, ast.ExceptHandler) and node.type is None:
            faults.append(f"L19 line {line}: except of no name")
    return faults


def source_faults(text):
    tree = ast.parse(text)
    return text_faults(text) + top_faults(tree) + import_faults(tree) + name_faults(tree) + node_faults(tree)


WRONG = [
    "import sys\n", "from os import path\n", "from .errors import NoRow\n", "from pointsure.errors import *\n",
    "A = 1\nA = 2\n", "A = len('a')\n", "print('a')\n", "def f(*a):\n    return a\n", "def f(**a):\n    return a\n",
    "def f(len):\n    return len\n", "def f(a):\n    id = a\n    return id\n", "def f(a):\n    return getattr(a, 'b')\n",
    "def f(a):\n    return a / 2\n", "def f(a):\n    return 0.5\n", "def f(a):\n    return (b for b in a)\n",
    "def f(a):\n    return {b for b in a}\n", "def f(a):\n    a.sort()\n", "def f(a):\n    b = c = a\n",
    "def f(a):\n    assert a\n", "def f(a):\n    return a is f\n", "def f(a):\n    return f'{a[0]}'\n",
    "def f(a):\n    for b in a:\n        pass\n    else:\n        pass\n", "def _f(a):\n    return a\n",
    "def f(a):\n" + "    a += 1\n" * 40, "A = 0\n" * 401, "A = '" + "a" * 120 + "'\n", "A = '\u00e4'\n", "A = '\t'\n",
    "# its type\n", "class C:\n    a = 1\n", "class C(ValueError, KeyError):\n    'c'\n", "def f(a):\n    return '%'\n",
    "def f(a):\n    try:\n        pass\n    except:\n        pass\n", "def f():\n    class C:\n        'c'\n",
]


class LanguageTest(unittest.TestCase):
    def test_wrong_sources_are_seen(self):
        for text in WRONG:
            with self.subTest(text=text[:60]):
                self.assertNotEqual(source_faults(text), [])

    def test_every_file_keeps_to_the_rules(self):
        files = sorted(PACKAGE.rglob("*.py"))
        self.assertIn(PACKAGE / "__init__.py", files)
        for file in files:
            with self.subTest(file=file.name):
                self.assertEqual(source_faults(file.read_text(encoding="utf-8")), [])

    def test_nothing_but_plain_files_lies_in_the_package(self):
        for file in PACKAGE.iterdir():
            if file.name == "__pycache__":
                continue
            self.assertEqual(file.suffix, ".py")
            self.assertRegex(file.stem, r"^([a-z][a-z0-9_]*|__init__|__main__)$")
            self.assertFalse(file.stem in vars(builtins) or keyword.iskeyword(file.stem), file.name)

    def test_no_two_files_draw_from_one_another(self):
        drawn = {}
        for file in sorted(PACKAGE.glob("*.py")):
            nodes = ast.walk(ast.parse(file.read_text(encoding="utf-8")))
            drawn[file.stem] = [node.module.split(".")[-1] for node in nodes if isinstance(node, ast.ImportFrom)]
        while drawn:
            free = [one for one in drawn if not any(other in drawn for other in drawn[one])]
            self.assertNotEqual(free, [], drawn)
            drawn = {one: drawn[one] for one in drawn if one not in free}


if __name__ == "__main__":
    unittest.main()
