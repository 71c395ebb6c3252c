"""The part of Python that the package keeps to: the rules that a look at each file can see."""

import ast
import builtins
import pathlib
import re
import unittest

PACKAGE = pathlib.Path(__file__).resolve().parent.parent / "scripttold"
FILES = sorted(path for path in PACKAGE.rglob("*") if "__pycache__" not in path.parts)

ERRORS = """Exception ValueError TypeError KeyError IndexError LookupError ZeroDivisionError ArithmeticError
OverflowError RuntimeError NotImplementedError AttributeError StopIteration""".split()
# chr and print are left out here: the first by L27, the second because there is no __main__.py.
OWN = """len range enumerate zip min max sum abs sorted reversed int str bool list tuple dict set frozenset isinstance
ord repr any all divmod""".split() + ERRORS
METHODS = """append clear copy count endswith extend find get index insert isalnum isalpha isdigit islower isspace
isupper items join keys ljust lower lstrip partition pop remove replace reverse rfind rjust rpartition rsplit rstrip
setdefault split splitlines startswith strip update upper values zfill bit_length""".split()
VALUES = "count index title find get join lower upper split strip copy add".split()
NEVER = """register mro elements open input version_info with_traceback add_note format format_map""".split()
WORDS = """type typing typing_extensions enum Enum IntEnum StrEnum Flag IntFlag Generic Protocol ABC ABCMeta namedtuple
NamedTuple TypedDict TYPE_CHECKING abstractmethod""".split()
NODES = """Module Expr ImportFrom alias FunctionDef arguments arg ClassDef Assign AugAssign If While For Return Break
Continue Pass Raise Try ExceptHandler Call keyword Constant List Tuple Dict Set Name Attribute Subscript Slice Load
Store BinOp UnaryOp BoolOp Compare IfExp ListComp comprehension Lambda JoinedStr FormattedValue Add Sub Mult FloorDiv
Mod Pow BitAnd BitOr BitXor LShift RShift Invert USub UAdd Not And Or Eq NotEq Lt LtE Gt GtE In NotIn Is
IsNot""".split()
PLAIN = (ast.Constant, ast.Tuple, ast.List, ast.Dict, ast.Name, ast.Load, ast.UnaryOp, ast.USub)


def names_of(kinds):
    return {name for kind in kinds for name in dir(kind)}


def tree(path):
    return ast.parse(path.read_text("utf-8"))


def nodes(path, kind):
    return [node for node in ast.walk(tree(path)) if isinstance(node, kind)]


def bound_at_top(path):
    names = []
    for node in tree(path).body:
        if isinstance(node, (ast.FunctionDef, ast.ClassDef)):
            names.append(node.name)
        elif isinstance(node, ast.Assign):
            names += [target.id for target in node.targets]
        elif isinstance(node, ast.ImportFrom):
            names += [alias.name for alias in node.names]
    return names


class Language(unittest.TestCase):

    def test_files(self):
        self.assertIn("__init__.py", [path.name for path in FILES])
        for path in FILES:
            with self.subTest(file=path.name):
                self.assertRegex(path.name, r"^([a-z][a-z0-9_]*|__init__)\.py$")
                self.assertNotIn(path.stem, dir(builtins))
                self.assertRegex(path.read_text("utf-8"), r"\A[ -~\n]*\Z")

    def test_sizes(self):
        for path in FILES:
            with self.subTest(file=path.name):
                lines = path.read_text("utf-8").split("\n")
                self.assertLessEqual(len(lines), 400)
                self.assertLessEqual(max(len(line) for line in lines), 120)
                for node in nodes(path, ast.FunctionDef):
                    self.assertLessEqual(node.end_lineno - node.lineno + 1, 40, node.name)

    def test_words(self):
        for path in FILES:
            with self.subTest(file=path.name):
                text = path.read_text("utf-8")
                self.assertEqual(sorted(set(re.findall(r"\w+", text)) & set(WORDS)), [])
                self.assertNotRegex(text, "dataclass|overload|contextmanager")

    def test_statements_and_expressions(self):
        for path in FILES:
            with self.subTest(file=path.name):
                for node in ast.walk(tree(path)):
                    self.assertIn(type(node).__name__, NODES, getattr(node, "lineno", 0))
                    if isinstance(node, ast.Assign):
                        self.assertEqual(len(node.targets), 1)
                    if isinstance(node, (ast.For, ast.While)):
                        self.assertEqual(node.orelse, [])
                    if isinstance(node, ast.ListComp):
                        self.assertEqual(len(node.generators), 1)
                    if isinstance(node, ast.Expr) and node.lineno > 1:
                        self.assertIsInstance(node.value, ast.Call, node.lineno)
                    if isinstance(node, ast.Constant):
                        self.assertIsInstance(node.value, (int, str, type(None)), node.lineno)
                        self.assertNotIn("%", str(node.value))

    def test_imports(self):
        drawn = {}
        for path in FILES:
            with self.subTest(file=path.name):
                drawn[path.stem] = []
                for node in nodes(path, ast.ImportFrom):
                    self.assertRegex(node.module, r"^scripttold\.[a-z]+$")
                    source = PACKAGE / (node.module.split(".")[1] + ".py")
                    own = [name for name in bound_at_top(source) if name not in
                           [alias.name for inner in nodes(source, ast.ImportFrom) for alias in inner.names]]
                    for alias in node.names:
                        self.assertIsNone(alias.asname)
                        self.assertIn(alias.name, own)
                    drawn[path.stem].append(source.stem)
        while drawn:
            free = [stem for stem in drawn if not set(drawn[stem]) & set(drawn)]
            self.assertTrue(free, "files that draw from one another")
            drawn.pop(free[0])

    def test_the_top(self):
        for path in FILES:
            with self.subTest(file=path.name):
                bound = bound_at_top(path)
                self.assertEqual(len(bound), len(set(bound)))
                for number, node in enumerate(tree(path).body):
                    if isinstance(node, ast.Assign):
                        for part in ast.walk(node.value):
                            self.assertIsInstance(part, PLAIN, node.lineno)
                        names = [part.id for part in ast.walk(node.value) if isinstance(part, ast.Name)]
                        above = [part for part in tree(path).body[:number] if isinstance(part, ast.FunctionDef)]
                        functions = [part.name for part in above]
                        self.assertEqual([name for name in names if name not in functions], [])
                    elif number > 0 or not isinstance(node, ast.Expr):
                        self.assertIsInstance(node, (ast.ImportFrom, ast.FunctionDef, ast.ClassDef), node.lineno)

    def test_functions_and_classes(self):
        for path in FILES:
            with self.subTest(file=path.name):
                for node in nodes(path, ast.FunctionDef):
                    self.assertEqual(node.decorator_list + node.args.kwonlyargs + node.args.posonlyargs, [])
                    self.assertEqual([node.args.vararg, node.args.kwarg, node.returns], [None] * 3)
                    self.assertEqual([arg.arg for arg in node.args.args if arg.annotation], [])
                for node in nodes(path, ast.ClassDef):
                    self.assertLessEqual(len(node.bases), 1)
                    for inner in node.body:
                        self.assertIsInstance(inner, ast.FunctionDef)

    def test_names(self):
        for path in FILES:
            with self.subTest(file=path.name):
                top = bound_at_top(path)
                classes_and_imports = [node.name for node in nodes(path, ast.ClassDef)] + [
                    alias.name for node in nodes(path, ast.ImportFrom) for alias in node.names]
                stored = [node.id for node in nodes(path, ast.Name) if isinstance(node.ctx, ast.Store)]
                stored += [node.arg for node in nodes(path, ast.arg)]
                stored += [node.name for node in nodes(path, ast.ExceptHandler) if node.name]
                for name in stored:
                    self.assertRegex(name, r"^[A-Za-z][A-Za-z0-9_]*$")
                    self.assertNotIn(name, dir(builtins))
                    self.assertNotIn(name, classes_and_imports)
                for node in nodes(path, ast.Name):
                    self.assertIn(node.id, top + stored + OWN, node.lineno)
                    self.assertNotIn(node.id, NEVER)

    def test_methods_and_values(self):
        methods, values, called = set(), set(), set()
        for path in FILES:
            with self.subTest(file=path.name):
                for node in nodes(path, ast.ClassDef):
                    methods |= {inner.name for inner in node.body if isinstance(inner, ast.FunctionDef)}
                values |= {node.attr for node in nodes(path, ast.Attribute) if isinstance(node.ctx, ast.Store)}
                called |= {node.func.attr for node in nodes(path, ast.Call) if isinstance(node.func, ast.Attribute)}
        taken = names_of([str, int, list, tuple, dict, set, frozenset, bytes, bool])
        self.assertEqual(methods & values, set())
        self.assertEqual((methods - {"__init__"}) & taken, set())
        self.assertEqual((values - set(VALUES)) & taken, set())
        self.assertEqual(values & {"args"}, set())
        self.assertEqual(called - methods - set(METHODS), set())
        self.assertEqual((methods | values | called) & set(NEVER), set())

    def test_is_and_raise(self):
        for path in FILES:
            with self.subTest(file=path.name):
                for node in nodes(path, ast.Compare):
                    if isinstance(node.ops[0], (ast.Is, ast.IsNot)):
                        self.assertIsInstance(node.comparators[0], ast.Constant)
                for node in nodes(path, ast.Raise):
                    self.assertIsInstance(node.exc, ast.Call)
