"""The rules of LANGUAGE.md that can be seen in a file by itself; what they cannot see is left to the reader."""

import ast
import builtins
import pathlib
import re
import unittest

PACKAGE = pathlib.Path(__file__).resolve().parent.parent / "nearreach"
FILES = sorted(PACKAGE.rglob("*.py"))

BUILTINS = set("""
    len range enumerate zip min max sum abs sorted reversed int str bool bytes list tuple dict set frozenset isinstance
    ord repr any all divmod Exception ValueError TypeError KeyError IndexError LookupError ZeroDivisionError
    ArithmeticError OverflowError RuntimeError NotImplementedError AttributeError StopIteration
""".split())
METHODS = set("""
    append clear copy count endswith extend find get index insert isalnum isalpha isdigit islower isspace isupper items
    join keys ljust lower lstrip partition pop remove replace reverse rfind rjust rpartition rsplit rstrip setdefault
    split splitlines startswith strip update upper values zfill bit_length sort add discard
""".split())
NODES = set("""
    Module Expr Constant ImportFrom alias FunctionDef arguments arg ClassDef Return Assign AugAssign If While For Break
    Continue Pass Raise Assert Delete Try ExceptHandler Call Name Attribute Subscript Slice Load Store Del Tuple List
    Dict Set ListComp DictComp SetComp comprehension BinOp UnaryOp BoolOp Compare IfExp Lambda JoinedStr FormattedValue
    Starred keyword Add Sub Mult FloorDiv Mod Pow LShift RShift BitAnd BitOr BitXor Invert Not USub UAdd And Or Eq NotEq
    Lt LtE Gt GtE Is IsNot In NotIn
""".split())
ON_THE_SPOT = {"zip", "enumerate", "reversed", "range"}
WORDS = re.compile(
    r"\b(type|typing|typing_extensions|enum|Enum|IntEnum|StrEnum|Flag|IntFlag|Generic|Protocol|ABC|ABCMeta|namedtuple"
    r"|NamedTuple|TypedDict|TYPE_CHECKING|abstractmethod)\b|dataclass|overload|contextmanager")
BARRED = set("""
    register mro elements open input version_info with_traceback add_note attrgetter breakpoint builtins compile
    copyright credits delattr dir eval exec exit gc getattr globals hasattr help id importlib license locals
    methodcaller os quit setattr super type vars sys chr print
""".split())
DUNDERS = {"__init__", "__eq__", "__repr__", "__str__", "__len__"}


def bound_names(tree):
    """Every name that a file binds anywhere."""
    for node in ast.walk(tree):
        if isinstance(node, (ast.FunctionDef, ast.ClassDef)):
            yield node.name
        elif isinstance(node, ast.arg):
            yield node.arg
        elif isinstance(node, ast.Name) and not isinstance(node.ctx, ast.Load):
            yield node.id
        elif isinstance(node, ast.alias):
            yield node.asname or node.name
        elif isinstance(node, ast.ExceptHandler) and node.name:
            yield node.name


def parents(tree):
    return {child: node for node in ast.walk(tree) for child in ast.iter_child_nodes(node)}


def is_call_of(node, names):
    return isinstance(node, ast.Call) and isinstance(node.func, ast.Name) and node.func.id in names


class LanguageTest(unittest.TestCase):
    def each(self):
        for path in FILES:
            with self.subTest(file=path.name):
                text = path.read_text(encoding="utf-8")
                yield path, text, ast.parse(text)

    def test_files(self):
        self.assertIn(PACKAGE / "__init__.py", FILES)
        for path in PACKAGE.iterdir():
            if path.name != "__pycache__":
                self.assertRegex(path.name, r"\A[a-z_][a-z0-9_]*\.py\Z")

    def test_characters_and_sizes(self):
        for path, text, tree in self.each():
            self.assertRegex(text, r"\A[ -~\n]*\Z")
            self.assertLessEqual(len(text.splitlines()), 400)
            self.assertLessEqual(max(map(len, text.splitlines())), 120)
            for node in ast.walk(tree):
                if isinstance(node, ast.FunctionDef):
                    self.assertLessEqual(node.end_lineno - node.lineno + 1, 40, node.name)

    def test_words(self):
        for path, text, tree in self.each():
            self.assertIsNone(WORDS.search(text))

    def test_statements_and_expressions(self):
        for path, text, tree in self.each():
            for node in ast.walk(tree):
                self.assertIn(type(node).__name__, NODES, getattr(node, "lineno", 0))
                self.assertFalse(getattr(node, "decorator_list", []))
                self.assertFalse(isinstance(node, (ast.For, ast.While)) and node.orelse)
                if isinstance(node, ast.arguments):
                    self.assertFalse(node.vararg or node.kwarg or node.posonlyargs)
                if isinstance(node, ast.Constant):
                    self.assertNotIsInstance(node.value, (float, complex))
                    self.assertNotIn("%", str(node.value))
                if isinstance(node, ast.BinOp) and isinstance(node.op, ast.Pow):
                    self.assertIsInstance(node.right, ast.Constant)
                if isinstance(node, ast.Compare):
                    for op, right in zip(node.ops, node.comparators):
                        if isinstance(op, (ast.Is, ast.IsNot)):
                            self.assertIn(getattr(right, "value", 0), (None, True, False))
                            self.assertIsInstance(right, ast.Constant)

    def test_module_level(self):
        for path, text, tree in self.each():
            for at, node in enumerate(tree.body):
                if isinstance(node, ast.Expr):
                    self.assertEqual(at, 0)
                self.assertIsInstance(node, (ast.Expr, ast.ImportFrom, ast.FunctionDef, ast.ClassDef, ast.Assign))
            names = [node.name for node in tree.body if isinstance(node, (ast.FunctionDef, ast.ClassDef))]
            names += [alias.name for node in tree.body if isinstance(node, ast.ImportFrom) for alias in node.names]
            names += [node.targets[0].id for node in tree.body if isinstance(node, ast.Assign)]
            self.assertEqual(sorted(names), sorted(set(names)))

    def test_imports(self):
        goes = {}
        for path, text, tree in self.each():
            goes[path.stem] = []
            for node in ast.walk(tree):
                if not isinstance(node, ast.ImportFrom):
                    continue
                self.assertIn(node, tree.body)
                self.assertEqual((node.level, node.module.split(".")[0], node.module.count(".")), (0, "nearreach", 1))
                source = node.module.split(".")[1]
                goes[path.stem].append(source)
                defined = ast.parse((PACKAGE / (source + ".py")).read_text(encoding="utf-8")).body
                owned = [getattr(each, "name", None) or getattr(getattr(each, "targets", [None])[0], "id", None)
                         for each in defined]
                used = {each.id for each in ast.walk(tree) if isinstance(each, ast.Name)}
                for alias in node.names:
                    self.assertIsNone(alias.asname)
                    self.assertIn(alias.name, owned)
                    self.assertIn(alias.name, used)
        while goes:
            free = [name for name in goes if not set(goes[name]) & set(goes)]
            self.assertTrue(free, "files import from each other")
            for name in free:
                del goes[name]

    def test_names(self):
        for path, text, tree in self.each():
            bound = set(bound_names(tree))
            for name in bound - DUNDERS:
                self.assertRegex(name, r"\A[A-Za-z][A-Za-z0-9_]*\Z")
                self.assertNotIn(name, BARRED)
                self.assertFalse(hasattr(builtins, name), name)
            for node in ast.walk(tree):
                if isinstance(node, ast.Name) and isinstance(node.ctx, ast.Load):
                    self.assertIn(node.id, bound | BUILTINS, node.lineno)
            outer = {alias.name for node in tree.body if isinstance(node, ast.ImportFrom) for alias in node.names}
            outer |= {node.name for node in tree.body if isinstance(node, ast.ClassDef)}
            for function in ast.walk(tree):
                if isinstance(function, ast.FunctionDef):
                    self.assertFalse(outer & set(bound_names(function)), function.name)

    def test_methods(self):
        own = {node.name for path in FILES for each in ast.walk(ast.parse(path.read_text(encoding="utf-8")))
               if isinstance(each, ast.ClassDef) for node in each.body if isinstance(node, ast.FunctionDef)}
        for path, text, tree in self.each():
            for node in ast.walk(tree):
                if isinstance(node, ast.Call) and isinstance(node.func, ast.Attribute):
                    self.assertIn(node.func.attr, METHODS | own, node.lineno)

    def test_attributes(self):
        trees = [ast.parse(path.read_text(encoding="utf-8")) for path in FILES]
        classes = [each for tree in trees for each in tree.body if isinstance(each, ast.ClassDef)]
        methods = {node.name for each in classes for node in each.body if isinstance(node, ast.FunctionDef)}
        read = [node for tree in trees for node in ast.walk(tree) if isinstance(node, ast.Attribute)]
        assigned = {node.attr for node in read if not isinstance(node.ctx, ast.Load)}
        self.assertFalse(assigned & methods)
        for node in read:
            self.assertIn(node.attr, assigned | methods | METHODS | {"__init__"}, node.lineno)
        taken = {name for value in ("", 1, [], {}, set(), b"") for name in dir(value) if not name.startswith("__")}
        self.assertFalse((assigned | methods) & taken)
        for each in classes:
            names = [node.name for node in each.body if isinstance(node, ast.FunctionDef)]
            self.assertEqual(len(set(names)), len(names))
            self.assertLessEqual(len(each.bases), 1)
            for node in each.body:
                self.assertIsInstance(node, (ast.FunctionDef, ast.Expr))

    def test_iterated_at_once(self):
        for path, text, tree in self.each():
            above = parents(tree)
            for node in ast.walk(tree):
                if not is_call_of(node, ON_THE_SPOT):
                    continue
                parent = above[node]
                takers = set("list tuple dict sorted sum any all enumerate zip bytes min max".split())
                if is_call_of(node, {"range"}):
                    takers = takers | {"reversed", "len"}
                if isinstance(parent, ast.Call):
                    self.assertTrue(is_call_of(parent, takers) and parent.args[0] == node, node.lineno)
                else:
                    self.assertIsInstance(parent, (ast.For, ast.comprehension), node.lineno)

    def test_sets(self):
        for path, text, tree in self.each():
            above = parents(tree)
            for node in ast.walk(tree):
                if not (isinstance(node, (ast.Set, ast.SetComp)) or is_call_of(node, {"set"})):
                    continue
                parent = above[node]
                while isinstance(parent, ast.BinOp):
                    parent = above[parent]
                stored = isinstance(parent, ast.Assign) and isinstance(parent.targets[0], ast.Name)
                at_once = is_call_of(parent, {"sorted", "len"}) or isinstance(parent, ast.Compare)
                self.assertTrue(stored or at_once, node.lineno)

    def test_this_looker_sees_faults(self):
        for text in ("import os", "x = 1.5", "def f(*a):\n    pass", "a = (x for x in y)", "async def f():\n    pass"):
            bad = [node for node in ast.walk(ast.parse(text)) if type(node).__name__ not in NODES
                   or getattr(node, "vararg", None) or isinstance(getattr(node, "value", None), float)]
            self.assertTrue(bad, text)
