"""The package keeps to the part of Python that it is to be written in, as far as a program can see that."""

import ast
import builtins
import pathlib
import re
import unittest

PACKAGE = pathlib.Path(__file__).resolve().parent.parent / "wovendocs"
FILES = sorted(PACKAGE.rglob("*.py"))

NODES = """Module Import ImportFrom alias FunctionDef ClassDef arguments arg Lambda Assign AugAssign If While For Return
Break Continue Pass Raise Try ExceptHandler Expr Call keyword Constant List Tuple Dict Set BinOp UnaryOp BoolOp Compare
IfExp Attribute Subscript Slice Name Load Store ListComp comprehension JoinedStr FormattedValue Add Sub Mult FloorDiv Mod
Pow BitAnd BitOr BitXor LShift RShift Invert USub UAdd Not And Or Eq NotEq Lt LtE Gt GtE In NotIn Is IsNot""".split()
BUILT_IN = """len range enumerate zip min max sum abs sorted reversed int str bool list tuple dict set frozenset isinstance
ord repr any all divmod Exception ValueError TypeError KeyError IndexError LookupError ZeroDivisionError ArithmeticError
OverflowError RuntimeError NotImplementedError AttributeError StopIteration""".split()
METHODS = """append clear copy count endswith extend find get index insert isalnum isalpha isdigit islower isspace isupper
items join keys ljust lower lstrip partition pop remove replace reverse rfind rjust rpartition rsplit rstrip setdefault
split splitlines startswith strip update upper values zfill bit_length""".split()
UNUSED = "register mro elements open input version_info with_traceback add_note format format_map".split()
NO_WORDS = """type typing typing_extensions enum Enum IntEnum StrEnum Flag IntFlag Generic Protocol ABC ABCMeta namedtuple
NamedTuple TypedDict TYPE_CHECKING abstractmethod""".split()
OWN_DOUBLE = ["__init__", "__eq__", "__repr__", "__str__", "__len__"]
OF_VALUES = {name for kind in (str, int, list, dict, set, bytes, tuple) for name in dir(kind)}


def nodes_of(tree, *kinds):
    return [node for node in ast.walk(tree) if isinstance(node, kinds)]


def is_plain(node):
    if isinstance(node, ast.UnaryOp):
        return isinstance(node.op, ast.USub) and isinstance(node.operand, ast.Constant)
    if isinstance(node, (ast.List, ast.Tuple)):
        return all(is_plain(one) for one in node.elts)
    if isinstance(node, ast.Dict):
        return all(is_plain(one) for one in node.keys + node.values)
    return isinstance(node, ast.Constant)


def bound_names(tree):
    found = [node.id for node in nodes_of(tree, ast.Name) if isinstance(node.ctx, ast.Store)]
    found += [node.arg for node in nodes_of(tree, ast.arg)]
    found += [node.name for node in nodes_of(tree, ast.FunctionDef, ast.ClassDef)]
    return found + [node.name for node in nodes_of(tree, ast.ExceptHandler) if node.name]


def each():
    for path in FILES:
        source = path.read_text(encoding="utf-8")
        yield path, source, ast.parse(source, path.name)


class LanguageTest(unittest.TestCase):
    def test_files(self):
        self.assertIn(PACKAGE / "__init__.py", FILES)
        for path in PACKAGE.rglob("*"):
            if "__pycache__" not in path.parts:
                self.assertRegex(path.name, r"\A([a-z0-9][a-z0-9_]*|__init__|__main__)\.py\Z")
                self.assertNotIn(path.stem, dir(builtins))

    def test_signs_and_sizes(self):
        for path, source, tree in each():
            self.assertIsNone(re.search(r"[^ -~\n]", source))
            lines = source.split("\n")
            self.assertLessEqual(len(lines), 400)
            self.assertLessEqual(max(len(line) for line in lines), 120)
            for node in nodes_of(tree, ast.FunctionDef):
                self.assertLessEqual(node.end_lineno - node.lineno + 1, 40, node.name)

    def test_words(self):
        for path, source, tree in each():
            words = re.findall(r"\w+", source)
            self.assertEqual([word for word in words if word in NO_WORDS], [])
            self.assertIsNone(re.search("dataclass|overload|contextmanager", source))

    def test_nodes(self):
        for path, source, tree in each():
            self.assertEqual([type(node).__name__ for node in ast.walk(tree) if type(node).__name__ not in NODES], [])
            for node in nodes_of(tree, ast.Assign):
                self.assertEqual([len(node.targets), isinstance(node.targets[0], (ast.Tuple, ast.List))], [1, False])
            for node in nodes_of(tree, ast.For, ast.While):
                self.assertEqual(node.orelse, [])
            for node in nodes_of(tree, ast.Try):
                self.assertEqual(node.finalbody, [])
            for node in nodes_of(tree, ast.ListComp):
                self.assertEqual([len(node.generators), len(node.generators[0].ifs) < 2], [1, True])
            for node in nodes_of(tree, ast.FormattedValue):
                self.assertIsInstance(node.value, ast.Name)
            for node in nodes_of(tree, ast.Constant):
                self.assertIn(type(node.value), (int, str, bool, type(None)))
                self.assertNotIn("%", str(node.value))

    def test_statements_that_are_texts(self):
        for path, source, tree in each():
            for node in nodes_of(tree, ast.Expr):
                self.assertTrue(node is tree.body[0] or isinstance(node.value, ast.Call))

    def test_top(self):
        for path, source, tree in each():
            self.assertIsInstance(tree.body[0], ast.Expr)
            for node in tree.body[1:]:
                self.assertIsInstance(node, (ast.ImportFrom, ast.FunctionDef, ast.ClassDef, ast.Assign))
                if isinstance(node, ast.Assign):
                    self.assertTrue(is_plain(node.value), ast.unparse(node))
            names = [node.name for node in tree.body if isinstance(node, (ast.FunctionDef, ast.ClassDef))]
            names += [node.targets[0].id for node in tree.body if isinstance(node, ast.Assign)]
            names += [one.name for node in nodes_of(tree, ast.ImportFrom) for one in node.names]
            self.assertEqual(len(set(names)), len(names))

    def test_imports(self):
        drawn = {}
        for path, source, tree in each():
            for node in nodes_of(tree, ast.Import, ast.ImportFrom):
                self.assertIn(node, tree.body)
                self.assertIsInstance(node, ast.ImportFrom)
                self.assertEqual([node.level, node.module.split(".")[0]], [0, "wovendocs"])
                other = PACKAGE / (node.module.split(".")[1] + ".py")
                defined = bound_names(ast.parse(other.read_text(encoding="utf-8")))
                for one in node.names:
                    self.assertIn(one.name, defined)
                    self.assertIsNone(one.asname)
                drawn.setdefault(path.stem, set()).add(other.stem)
        while drawn:
            free = [name for name in drawn if not any(other in drawn for other in drawn[name])]
            self.assertNotEqual(free, [], "files draw from one another")
            for name in free:
                drawn.pop(name)

    def test_functions_and_classes(self):
        for path, source, tree in each():
            for node in nodes_of(tree, ast.FunctionDef):
                found = node.args
                self.assertEqual([found.vararg, found.kwarg, found.kwonlyargs, found.posonlyargs], [None, None, [], []])
                self.assertEqual([node.decorator_list, node.returns], [[], None])
            for node in nodes_of(tree, ast.ClassDef):
                self.assertIn(node, tree.body)
                self.assertEqual([node.decorator_list, len(node.bases) < 2], [[], True])
                for one in node.body:
                    self.assertIsInstance(one, (ast.FunctionDef, ast.Pass))

    def test_names(self):
        for path, source, tree in each():
            top = [node.name for node in tree.body if isinstance(node, ast.ClassDef)]
            top += [one.name for node in nodes_of(tree, ast.ImportFrom) for one in node.names]
            bound = bound_names(tree)
            for name in bound:
                self.assertTrue(re.fullmatch("[A-Za-z][A-Za-z0-9_]*", name) or name in OWN_DOUBLE, name)
                self.assertNotIn(name, dir(builtins))
                self.assertNotIn(name, UNUSED)
            for name in [name for name in bound if name in top]:
                self.assertEqual(bound.count(name), 1, name)
            for node in nodes_of(tree, ast.Name):
                self.assertTrue(node.id in BUILT_IN or node.id not in dir(builtins), node.id)

    def test_methods_and_values(self):
        methods, values = set(), set()
        for path, source, tree in each():
            for kind in nodes_of(tree, ast.ClassDef):
                methods |= {node.name for node in nodes_of(kind, ast.FunctionDef)}
            stored = [node for node in nodes_of(tree, ast.Attribute) if isinstance(node.ctx, ast.Store)]
            values |= {node.attr for node in stored}
        self.assertEqual(methods & values, set())
        self.assertEqual(((methods - set(OWN_DOUBLE)) | values) & (OF_VALUES | set(UNUSED)), set())
        for path, source, tree in each():
            for node in nodes_of(tree, ast.Attribute):
                self.assertTrue(node.attr in methods | values or node.attr in METHODS, node.attr)

    def test_is_and_sets(self):
        for path, source, tree in each():
            for node in nodes_of(tree, ast.Compare):
                if isinstance(node.ops[0], (ast.Is, ast.IsNot)):
                    self.assertIsInstance(node.comparators[0], ast.Constant)
            self.assertEqual(nodes_of(tree, ast.Set), [])

    def test_handlers(self):
        for path, source, tree in each():
            for node in nodes_of(tree, ast.ExceptHandler):
                self.assertIsInstance(node.type, ast.Name)
                self.assertNotIn(node.type.id, ("Exception", "TypeError"))
            for node in nodes_of(tree, ast.Raise):
                self.assertIsInstance(node.exc, ast.Call)
