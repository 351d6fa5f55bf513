"""The form of the package's files: the small part of Python that they keep to."""

import ast
import builtins
import pathlib
import re
import unittest

PACKAGE = pathlib.Path(__file__).resolve().parent.parent / "blamewise"
MODULES = sorted(PACKAGE.rglob("*.py"))

NODES = """Module Import ImportFrom alias FunctionDef ClassDef arguments arg Lambda Return Assign AugAssign AnnAssign
    For While If Raise Try ExceptHandler Expr Pass Break Continue BoolOp And Or BinOp Add Sub Mult FloorDiv Mod Pow
    LShift RShift BitOr BitXor BitAnd UnaryOp Invert Not UAdd USub IfExp Dict Set List Tuple ListComp comprehension
    Compare Eq NotEq Lt LtE Gt GtE Is IsNot In NotIn Call keyword FormattedValue JoinedStr Constant Attribute
    Subscript Slice Name Load Store""".split()
OWN_NAMES = """len range enumerate zip min max sum abs sorted reversed int str bool list tuple dict set frozenset
    isinstance ord repr any all divmod Exception ValueError TypeError KeyError IndexError LookupError
    ZeroDivisionError ArithmeticError OverflowError RuntimeError NotImplementedError AttributeError
    StopIteration""".split()
METHODS = """append clear copy count endswith extend find get index insert isalnum isalpha isdigit islower isspace
    isupper items join keys ljust lower lstrip partition pop remove replace reverse rfind rjust rpartition rsplit
    rstrip setdefault split splitlines startswith strip update upper values zfill bit_length""".split()
NOT_USED = """register mro elements open input version_info with_traceback add_note attrgetter breakpoint builtins
    compile copyright credits delattr dir eval exec exit gc getattr globals hasattr help id importlib license locals
    methodcaller os quit setattr super type vars sys __name__ format format_map""".split()
NO_WORDS = """type typing typing_extensions enum Enum IntEnum StrEnum Flag IntFlag Generic Protocol ABC ABCMeta
    namedtuple NamedTuple TypedDict TYPE_CHECKING abstractmethod""".split()
NO_PIECES = ["dataclass", "overload", "contextmanager"]
WALKERS = ["list", "tuple", "dict", "sorted", "sum", "any", "all", "enumerate", "zip", "min", "max"]
WALKED = ["zip", "enumerate", "reversed", "range", "items", "keys", "values"]
KEYWORDS = {"sorted": ["key", "reverse"], "min": ["key", "default"], "max": ["key", "default"], "sum": ["start"],
            "enumerate": ["start"], "zip": ["strict"]}
TWO_UNDERSCORES = ["__init__", "__eq__", "__repr__", "__str__", "__len__"]


TEXTS = [(path.name, path.read_text(encoding="utf-8")) for path in MODULES]
TREES = [(file, ast.parse(text)) for file, text in TEXTS]


class FormTest(unittest.TestCase):
    def test_only_plain_files_lie_in_the_package(self):
        self.assertIn(PACKAGE / "__init__.py", MODULES)
        for path in PACKAGE.rglob("*"):
            if "__pycache__" not in path.parts:
                self.assertRegex(path.name, r"^([a-z][a-z0-9_]*|__init__)(\.py)?$")
                self.assertFalse(path.is_file() and path.suffix != ".py", path)
                self.assertNotIn(path.stem, dir(builtins) + ["test", "tests", "testing", "site", "conftest"])

    def test_size_and_signs(self):
        for file, text in TEXTS:
            rows = text.split("\n")
            self.assertRegex(text, r"\A[ -~\n]*\Z", file)
            self.assertLessEqual(len(rows), 400, file)
            self.assertLessEqual(max(len(row) for row in rows), 120, file)
        for file, tree in TREES:
            for node in ast.walk(tree):
                if isinstance(node, ast.FunctionDef):
                    self.assertLessEqual(node.end_lineno - node.lineno + 1, 40, (file, node.name))

    def test_words_that_stand_nowhere(self):
        for file, text in TEXTS:
            self.assertEqual(set(re.findall(r"\w+", text)) & set(NO_WORDS), set(), file)
            self.assertEqual([piece for piece in NO_PIECES if piece in text], [], file)

    def test_imports_are_of_the_package_alone_and_go_one_way(self):
        drawn = {}
        for file, tree in TREES:
            rows = [node for node in ast.walk(tree) if isinstance(node, (ast.Import, ast.ImportFrom))]
            for row in rows:
                self.assertIsInstance(row, ast.ImportFrom)
                self.assertIn(row, tree.body)
                self.assertEqual((row.level, row.module.split(".")[0]), (0, "blamewise"))
                self.assertNotIn("*", [name.name for name in row.names])
                defined = ast.parse((PACKAGE / (row.module.split(".")[1] + ".py")).read_text())
                self.assertLessEqual({name.name for name in row.names}, set(bound_at_top(defined)))
            drawn[file] = {row.module.split(".")[1] + ".py" for row in rows}
        while drawn:
            free = [file for file in drawn if not drawn[file] & set(drawn)]
            self.assertNotEqual(free, [], "files draw from one another")
            for file in free:
                drawn.pop(file)

    def test_the_top_of_a_file_binds_each_name_once(self):
        for file, tree in TREES:
            names = bound_at_top(tree)
            self.assertEqual(sorted(names), sorted(set(names)), file)
            self.assertIsNotNone(ast.get_docstring(tree), file)
            for node in tree.body[1:]:
                self.assertIsInstance(node, (ast.ImportFrom, ast.FunctionDef, ast.ClassDef, ast.Assign), file)
                if isinstance(node, ast.Assign):
                    self.assert_plain_value(node.value)

    def assert_plain_value(self, value):
        found = [type(node).__name__ for node in ast.walk(value)]
        self.assertLessEqual(set(found), {"Constant", "Tuple", "List", "Dict", "UnaryOp", "USub", "Name", "Load"})
        self.assertNotIn("List", found[1:])
        self.assertNotIn("Dict", found[1:])

    def test_statements_and_expressions(self):
        for file, tree in TREES:
            for node in ast.walk(tree):
                with self.subTest(file=file, line=getattr(node, "lineno", None)):
                    self.assertIn(type(node).__name__, NODES)
                    self.assertEqual(getattr(node, "decorator_list", []), [])
                    self.assert_plain(node)

    def assert_plain(self, node):
        if isinstance(node, ast.arguments):
            self.assertEqual((node.vararg, node.kwarg, node.kwonlyargs, node.posonlyargs), (None, None, [], []))
        elif isinstance(node, ast.ListComp):
            self.assertEqual(len(node.generators), 1)
            self.assertLessEqual(len(node.generators[0].ifs), 1)
        elif isinstance(node, ast.Assign):
            self.assertEqual(len(node.targets), 1)
            self.assertIsInstance(node.targets[0], (ast.Name, ast.Attribute, ast.Subscript))
        elif isinstance(node, (ast.For, ast.While)):
            self.assertEqual(node.orelse, [])
        elif isinstance(node, ast.Try):
            self.assertEqual(node.finalbody, [])
        elif isinstance(node, ast.FormattedValue):
            self.assertIsInstance(node.value, ast.Name)
            self.assertIsNone(node.format_spec)
        elif isinstance(node, ast.Constant):
            self.assertIsInstance(node.value, (int, str, bool, type(None)))
            self.assertNotIn("%", str(node.value))
        elif isinstance(node, ast.Compare) and any(isinstance(op, (ast.Is, ast.IsNot)) for op in node.ops):
            self.assertIn(ast.unparse(node.comparators[-1]), ["None", "True", "False"])
        elif isinstance(node, ast.BinOp) and isinstance(node.op, ast.Pow):
            self.assertIsInstance(node.right, ast.Constant)
        elif isinstance(node, ast.Expr):
            self.assertIsInstance(node.value, (ast.Call, ast.Constant))

    def test_defaults_are_plain_values(self):
        for file, tree in TREES:
            self.assertEqual([ast.unparse(default) for default in defaults_not_plain(tree)], [], file)

    def test_which_defaults_are_plain(self):
        for default in ["0", "7", "-7", "'some'", "''", "True", "False", "None"]:
            for text in with_default(default):
                self.assertEqual(defaults_not_plain(ast.parse(text)), [], text)
        for default in ["()", "(1, 2)", "[]", "{}", "{1}", "STILL", "len", "1.5", "-1.5", "2j", "b'some'", "...",
                        "-True", "not True", "1 + 1", "f'{STILL}'", "made()", "STILL[0]", "lambda: 1"]:
            for text in with_default(default):
                found = [ast.unparse(one) for one in defaults_not_plain(ast.parse(text))]
                self.assertEqual(found, [ast.unparse(ast.parse(default))], text)

    def test_names(self):
        for _, tree in TREES:
            imported = [name.name for node in tree.body if isinstance(node, ast.ImportFrom) for name in node.names]
            classes = [node.name for node in tree.body if isinstance(node, ast.ClassDef)]
            for name in bound_names(tree):
                self.assertNotIn(name, dir(builtins) + NOT_USED + imported)
                self.assertRegex(name, r"^[A-Za-z]")
                self.assertLessEqual(bound_names(tree).count(name) if name in classes else 1, 1)
            for node in ast.walk(tree):
                if isinstance(node, ast.Name):
                    self.assertNotIn(node.id, NOT_USED)
                    self.assertTrue(node.id in OWN_NAMES or node.id not in dir(builtins), node.id)

    def test_methods_and_values(self):
        trees = [tree for _, tree in TREES]
        methods = [node.name for tree in trees for one in tree.body if isinstance(one, ast.ClassDef)
                   for node in one.body if isinstance(node, ast.FunctionDef)]
        values = [node.attr for tree in trees for node in ast.walk(tree)
                  if isinstance(node, ast.Attribute) and isinstance(node.ctx, ast.Store)]
        self.assertEqual(set(methods) & set(values), set())
        self.assertEqual(set(methods + values) & set(NOT_USED), set())
        for name in methods:
            self.assertTrue(name in TWO_UNDERSCORES or not name.startswith("_"), name)
        for tree in trees:
            for node in ast.walk(tree):
                if isinstance(node, ast.Attribute):
                    self.assertIn(node.attr, METHODS + methods + values)

    def test_walked_at_once(self):
        for file, tree in TREES:
            walked = [node.iter for node in ast.walk(tree) if isinstance(node, (ast.For, ast.comprehension))]
            for node in ast.walk(tree):
                if isinstance(node, ast.Call) and isinstance(node.func, ast.Name) and node.func.id in WALKERS:
                    walked += node.args
                if isinstance(node, ast.Call) and getattr(node.func, "attr", None) == "join":
                    self.assertIsInstance(node.func.value, ast.Constant)
                    walked += node.args
            for node in ast.walk(tree):
                if isinstance(node, ast.Call) and getattr(node.func, "id", getattr(node.func, "attr", None)) in WALKED:
                    self.assertIn(node, walked, (file, node.lineno))

    def test_raised_and_taken_by_name(self):
        for file, tree in TREES:
            for node in ast.walk(tree):
                if isinstance(node, ast.Raise):
                    self.assertIsInstance(node.exc, ast.Call, (file, node.lineno))
                if isinstance(node, ast.ExceptHandler):
                    taken = node.type.elts if isinstance(node.type, ast.Tuple) else [node.type]
                    self.assertNotIn("Exception", [name.id for name in taken], (file, node.lineno))

    def test_keywords(self):
        for file, tree in TREES:
            own = [node.name for _, other in TREES for node in ast.walk(other) if isinstance(node, ast.FunctionDef)]
            for node in ast.walk(tree):
                if isinstance(node, ast.Call) and node.keywords:
                    name = getattr(node.func, "id", getattr(node.func, "attr", None))
                    for keyword in node.keywords:
                        self.assertTrue(name in own or keyword.arg in KEYWORDS.get(name, []), (file, node.lineno))

    def test_what_stands_at_the_top_is_only_read(self):
        for _, tree in TREES:
            kept = [node.targets[0].id for node in tree.body if isinstance(node, ast.Assign)]
            for node in ast.walk(tree):
                if isinstance(node, (ast.Subscript, ast.Attribute)) and not isinstance(node.ctx, ast.Load):
                    self.assertNotIn(getattr(node.value, "id", None), kept)


def defaults_not_plain(tree):
    """The defaults of all functions, methods and lambdas that are no whole number, text, True, False or None."""
    found = []
    for node in ast.walk(tree):
        if isinstance(node, ast.arguments):
            # A parameter behind a bare * that has no default stands there as None.
            defaults = node.defaults + [default for default in node.kw_defaults if default is not None]
            found += [default for default in defaults if not is_plain_default(default)]
    return found


def is_plain_default(default):
    """Whether a default is a whole number, a text, True, False or None, written out."""
    if isinstance(default, ast.UnaryOp) and isinstance(default.op, ast.USub):
        return isinstance(default.operand, ast.Constant) and type(default.operand.value) is int
    return isinstance(default, ast.Constant) and isinstance(default.value, (int, str, type(None)))


def with_default(default):
    """Texts of files in each of which one parameter has this default."""
    return [f"def first(a, b={default}, c=1):\n    return a\n",
            f"class Some:\n    def __init__(self, a={default}):\n        self.a = a\n",
            f"class Some:\n    def first(self, a, b={default}):\n        return a\n",
            f"def first():\n    def inner(a={default}):\n        return a\n    return inner()\n",
            f"def first(xs):\n    return sorted(xs, key=lambda a, b={default}: a)\n",
            f"def first(*, a, b={default}):\n    return a\n"]


def bound_at_top(tree):
    """The names that a file binds itself, as often as it binds them."""
    names = [node.name for node in tree.body if isinstance(node, (ast.FunctionDef, ast.ClassDef))]
    return names + [node.targets[0].id for node in tree.body if isinstance(node, ast.Assign)]


def bound_names(tree):
    """All names that are bound in a file, but by imports and as methods."""
    names = bound_at_top(tree)
    for node in ast.walk(tree):
        if isinstance(node, ast.arg):
            names.append(node.arg)
        elif isinstance(node, ast.Name) and isinstance(node.ctx, ast.Store) and node.col_offset > 0:
            names.append(node.id)
        elif isinstance(node, ast.ExceptHandler) and node.name:
            names.append(node.name)
    return names


if __name__ == "__main__":
    unittest.main()
