"""Rules of LANGUAGE.md that need more than one file, or more than one look, to be seen."""

import ast
import builtins
import pathlib
import unittest

PACKAGE = pathlib.Path(__file__).resolve().parent.parent / "pointsure"

METHODS = """append clear copy count endswith extend find get index insert isalnum isalpha isdigit islower isspace
isupper items join keys ljust lower lstrip partition pop remove replace reverse rfind rjust rpartition rsplit rstrip
setdefault split splitlines startswith strip update upper values zfill bit_length""".split()
CHANGES = "append clear extend insert pop remove reverse setdefault update".split()
NO_VALUES = CHANGES + "items keys values sort args encode format".split()
WALKED = "zip enumerate reversed range".split()
WALKERS = "list tuple dict sorted sum any all enumerate zip min max".split()
KEYWORDS = {"sorted": ("key", "reverse"), "min": ("key", "default"), "max": ("key", "default"), "sum": ("start",),
            "enumerate": ("start",), "zip": ("strict",)}


class Package:
    """The trees of some files, by their names, and what their classes tell."""

    def __init__(self, texts):
        self.trees = {name: ast.parse(text) for name, text in texts.items()}
        self.classes = [node for tree in self.trees.values() for node in tree.body if isinstance(node, ast.ClassDef)]
        self.methods = {one.name for node in self.classes for one in node.body if isinstance(one, ast.FunctionDef)}
        self.values = {
            one.attr for node in self.classes for one in ast.walk(node)
            if isinstance(one, ast.Attribute) and isinstance(one.ctx, ast.Store)}


def parents_of(tree):
    return {child: node for node in ast.walk(tree) for child in ast.iter_child_nodes(node)}


def method_faults(package, tree):
    faults = []
    parents = parents_of(tree)
    for node in ast.walk(tree):
        if not isinstance(node, ast.Attribute):
            continue
        parent = parents[node]
        called = isinstance(parent, ast.Call) and parent.func is node
        if called and node.attr not in METHODS and node.attr not in package.methods:
            faults.append(f"L25 line {node.lineno}: {node.attr} is called and is no method")
        key = isinstance(parent, ast.keyword) and parent.arg == "key"
        if not called and not key and node.attr in METHODS + sorted(package.methods):
            faults.append(f"L25 line {node.lineno}: {node.attr} is not called where it stands")
        if not called and node.attr not in package.values and node.attr not in package.methods:
            faults.append(f"L26 line {node.lineno}: {node.attr} is no value of a class")
    return faults


def bound_names(function):
    names = [one.arg for one in ast.walk(function) if isinstance(one, ast.arg)]
    names += [one.id for one in ast.walk(function) if isinstance(one, ast.Name) and isinstance(one.ctx, ast.Store)]
    names += [one.name for one in ast.walk(function) if isinstance(one, ast.ExceptHandler) and one.name]
    return names


def local_faults(tree):
    taken = {alias.asname or alias.name for node in tree.body if isinstance(node, ast.ImportFrom) for alias in node.names}
    taken |= {node.name for node in tree.body if isinstance(node, ast.ClassDef)}
    taken |= set(vars(builtins))
    faults = []
    for node in ast.walk(tree):
        if isinstance(node, ast.FunctionDef):
            for name in bound_names(node):
                if name in taken:
                    faults.append(f"L15 {node.name}: {name}")
    return faults


def unused_faults(tree):
    """Not a rule, but an import that nobody uses is none that is needed."""
    used = {node.id for node in ast.walk(tree) if isinstance(node, ast.Name)}
    return [f"unused: {alias.name}" for node in tree.body if isinstance(node, ast.ImportFrom) for alias in node.names
            if alias.name not in used]


def import_faults(package, tree):
    faults = []
    for node in tree.body:
        if isinstance(node, ast.ImportFrom):
            source = package.trees.get(node.module.split(".")[-1])
            if source is None:
                faults.append(f"L16 line {node.lineno}: no such file")
                continue
            told = [one.name for one in source.body if isinstance(one, (ast.FunctionDef, ast.ClassDef))]
            told += [one.targets[0].id for one in source.body if isinstance(one, ast.Assign)]
            faults += [f"L16 line {node.lineno}: {one.name}" for one in node.names if one.name not in told]
    return faults


def walked_names(node):
    """The texts of what a loop walks, itself or through others."""
    walked = node.iter
    if isinstance(walked, ast.Call):
        if isinstance(walked.func, ast.Attribute) and walked.func.attr in ("items", "keys", "values"):
            return [ast.unparse(walked.func.value)]
        if isinstance(walked.func, ast.Name) and walked.func.id in WALKED:
            return [ast.unparse(one) for one in walked.args]
        return []
    return [ast.unparse(walked)]


def loop_faults(tree):
    faults = []
    for node in ast.walk(tree):
        if not isinstance(node, ast.For):
            continue
        walked = walked_names(node)
        for one in ast.walk(node):
            if isinstance(one, ast.Call) and isinstance(one.func, ast.Attribute) and one.func.attr in CHANGES:
                if ast.unparse(one.func.value) in walked:
                    faults.append(f"L23 line {one.lineno}: {ast.unparse(one)}")
            if isinstance(one, ast.Subscript) and isinstance(one.ctx, ast.Store) and ast.unparse(one.value) in walked:
                faults.append(f"L23 line {one.lineno}: {ast.unparse(one)}")
    return faults


def is_walked_on_the_spot(node, parent):
    if isinstance(parent, (ast.For, ast.comprehension)):
        return parent.iter is node
    if isinstance(parent, ast.Call) and isinstance(parent.func, ast.Name):
        return parent.func.id in WALKERS and parent.args[0] is node or parent.func.id == "zip"
    return isinstance(parent, ast.Call) and isinstance(parent.func, ast.Attribute) and parent.func.attr == "join"


def is_set_at_its_place(parent):
    if isinstance(parent, ast.Compare):
        return True
    if isinstance(parent, ast.BinOp):
        return True
    return isinstance(parent, ast.Call) and isinstance(parent.func, ast.Name) and parent.func.id in ("sorted", "len")


def call_faults(tree):
    faults = []
    parents = parents_of(tree)
    for node in ast.walk(tree):
        if isinstance(node, ast.Set):
            faults.append(f"L24 line {node.lineno}: a set is written")
        if not isinstance(node, ast.Call):
            continue
        name = node.func.id if isinstance(node.func, ast.Name) else None
        method = node.func.attr if isinstance(node.func, ast.Attribute) else None
        if (name in WALKED or method in ("items", "keys", "values")) and not is_walked_on_the_spot(node, parents[node]):
            faults.append(f"L23 line {node.lineno}: {ast.unparse(node)} is kept")
        if name in ("set", "frozenset") and not is_set_at_its_place(parents[node]):
            faults.append(f"L24 line {node.lineno}: {ast.unparse(node)}")
        if name in vars(builtins) or method in METHODS:
            for one in node.keywords:
                if one.arg not in KEYWORDS.get(name, ()):
                    faults.append(f"L22 line {node.lineno}: {one.arg}")
    return faults


def builtin_value_faults(tree):
    parents = parents_of(tree)
    faults = []
    for node in ast.walk(tree):
        if isinstance(node, ast.Name) and node.id in ("len", "sorted", "min", "max", "sum", "abs", "any", "all", "range"):
            parent = parents[node]
            if not (isinstance(parent, ast.Call) and parent.func is node or isinstance(parent, ast.keyword)):
                faults.append(f"L22 line {node.lineno}: {node.id} is no value")
    return faults


def error_faults(tree):
    """Python's errors are taken nowhere in this package but KeyError; own ones by their names."""
    faults = []
    for node in ast.walk(tree):
        if isinstance(node, ast.ExceptHandler):
            taken = ast.unparse(node.type)
            if taken in ("Exception", "TypeError", "ValueError", "LookupError", "IndexError", "AttributeError"):
                faults.append(f"L19 line {node.lineno}: {taken}")
        if isinstance(node, ast.Raise) and not isinstance(node.exc, ast.Call):
            faults.append(f"L19 line {node.lineno}: raise makes its error on the spot")
    return faults


def target_faults(tree):
    """A value is given through a local name: no call stands ahead of what is stored to."""
    faults = []
    for node in ast.walk(tree):
        if isinstance(node, (ast.Attribute, ast.Subscript)) and isinstance(node.ctx, ast.Store):
            root = node.value
            while isinstance(root, (ast.Attribute, ast.Subscript)):
                root = root.value
            if not isinstance(root, ast.Name):
                faults.append(f"L18 line {node.lineno}: {ast.unparse(node)}")
    return faults


def init_faults(tree):
    faults = []
    for node in ast.walk(tree):
        if isinstance(node, ast.FunctionDef) and node.name == "__init__":
            faults += [f"L28 line {one.lineno}" for one in ast.walk(node) if isinstance(one, ast.Return)]
        if isinstance(node, (ast.FunctionDef, ast.Lambda)):
            inner = [one for one in ast.walk(node) if isinstance(one, (ast.FunctionDef, ast.Lambda)) and one is not node]
            faults += [f"within a def, line {one.lineno}" for one in inner if isinstance(one, ast.FunctionDef)]
    return faults


def annotation_faults(tree):
    faults = [f"L21 line {node.lineno}" for node in ast.walk(tree)
              if isinstance(node, ast.FunctionDef) and node.returns or isinstance(node, ast.arg) and node.annotation]
    return faults


def top_use_faults(tree):
    """A list or dict of a file's top: only an index, a walk, `in`, `==`, get and len are seen here."""
    tops = {one.targets[0].id for one in tree.body
            if isinstance(one, ast.Assign) and isinstance(one.value, (ast.List, ast.Dict))}
    parents = parents_of(tree)
    faults = []
    for node in ast.walk(tree):
        if isinstance(node, ast.Name) and node.id in tops and isinstance(node.ctx, ast.Load):
            parent = parents[node]
            read = isinstance(parent, ast.Subscript) and isinstance(parent.ctx, ast.Load) and parent.value is node
            read = read or isinstance(parent, (ast.Compare, ast.For, ast.comprehension))
            read = read or isinstance(parent, ast.Attribute) and parent.attr in ("get", "items", "keys", "values")
            copy = isinstance(parent, ast.Call) and ast.unparse(parent.func) in ("list", "dict", "len", "sorted")
            if not read and not copy:
                faults.append(f"L15 line {node.lineno}: {node.id}")
    return faults


def whole_faults(texts):
    package = Package(texts)
    faults = []
    both = {name for name in package.methods & package.values}
    faults += [f"L18 {name} is a method and a value" for name in sorted(both)]
    faults += [f"L26 {name} is no value" for name in sorted(package.values & set(NO_VALUES))]
    for name, tree in package.trees.items():
        told = method_faults(package, tree) + local_faults(tree) + import_faults(package, tree) + loop_faults(tree)
        told += call_faults(tree) + builtin_value_faults(tree) + error_faults(tree) + init_faults(tree)
        told += target_faults(tree) + annotation_faults(tree) + top_use_faults(tree) + unused_faults(tree)
        faults += [f"{name}: {one}" for one in told]
    return faults


KEPT = "class C:\n    def __init__(self):\n        self.a = 1\n\n    def shown(self):\n        return self.a\n"

WRONG = [
    {"a": "def f(program):\n    return program.shown()\n"},
    {"a": KEPT, "b": "class D:\n    def __init__(self):\n        self.shown = 1\n"},
    {"a": KEPT, "b": "def f(c):\n    return c.shown\n"},
    {"a": KEPT, "b": "def f(c):\n    return c.b\n"},
    {"a": KEPT, "b": "from pointsure.a import C\n\n\ndef f(C):\n    return C\n"},
    {"a": KEPT, "b": "from pointsure.a import D\n\n\ndef f(c):\n    return D(c)\n"},
    {"a": KEPT, "b": "from pointsure.c import C\n\n\ndef f(c):\n    return C(c)\n"},
    {"a": KEPT, "b": "from pointsure.a import C\n"},
    {"a": "def f(c):\n    for one in c:\n        c.append(one)\n"},
    {"a": "def f(c):\n    for one in enumerate(c):\n        c[0] = one\n"},
    {"a": "def f(c):\n    for one in c.items():\n        c.pop(one)\n"},
    {"a": "def f(c):\n    d = enumerate(c)\n    return list(d)\n"},
    {"a": "def f(c):\n    d = c.items()\n    return list(d)\n"},
    {"a": "def f(c):\n    d = set(c)\n    return len(d)\n"},
    {"a": "def f(c):\n    for d in set(c):\n        return d\n"},
    {"a": "def f(c):\n    return c in {1, 2}\n"},
    {"a": "def f(c):\n    return len\n"},
    {"a": "def f(c):\n    return c.split(sep='a')\n"},
    {"a": "def f(c):\n    return dict(a=c)\n"},
    {"a": "def f(c):\n    try:\n        return f(c)\n    except ValueError:\n        return c\n"},
    {"a": "def f(c):\n    raise c\n"},
    {"a": "class C:\n    def __init__(self):\n        return None\n"},
    {"a": "def f(c: int):\n    return c\n"},
    {"a": "A = {}\n\n\ndef f(c):\n    A[c] = c\n"},
    {"a": "A = {}\n\n\ndef f(c):\n    return A\n"},
    {"a": "A = {}\n\n\ndef f(c):\n    return f(A)\n"},
    {"a": KEPT + "\n\ndef f(c):\n    f(c).a = 1\n"},
    {"a": "A = []\n\n\ndef f(c):\n    A.append(c)\n"},
]


class WholeLanguageTest(unittest.TestCase):
    def test_wrong_packages_are_seen(self):
        for texts in WRONG:
            with self.subTest(texts=texts):
                self.assertNotEqual(whole_faults(texts), [])

    def test_a_method_of_the_packages_own_is_none_of_them(self):
        self.assertEqual(whole_faults({"a": KEPT, "b": "def f(program):\n    return program.shown()\n"}), [])

    def test_the_package_keeps_to_the_rules(self):
        texts = {file.stem: file.read_text(encoding="utf-8") for file in sorted(PACKAGE.glob("*.py"))}
        self.assertIn("programs", texts)
        self.assertEqual(whole_faults(texts), [])


if __name__ == "__main__":
    unittest.main()
