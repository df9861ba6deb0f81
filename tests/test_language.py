"""The form of the package's own files: the rules that can be read off the code."""

import ast
import builtins
import re
import unittest
from pathlib import Path

PACKAGE = Path(__file__).resolve().parent.parent / "trackverdict"

STATEMENTS = (
    ast.FunctionDef, ast.ClassDef, ast.Return, ast.Assign, ast.AugAssign, ast.For, ast.While, ast.If,
    ast.Raise, ast.Try, ast.ImportFrom, ast.Expr, ast.Pass, ast.Break, ast.Continue,
)
EXPRESSIONS = (
    ast.BoolOp, ast.BinOp, ast.UnaryOp, ast.Lambda, ast.IfExp, ast.Dict, ast.ListComp, ast.Compare, ast.Call,
    ast.JoinedStr, ast.FormattedValue, ast.Constant, ast.Attribute, ast.Subscript, ast.Name, ast.List,
    ast.Tuple, ast.Slice,
)
OWN_NAMES = (
    "len range enumerate zip min max sum abs sorted reversed int str bool list tuple dict set frozenset isinstance"
    " ord repr any all divmod Exception ValueError TypeError KeyError IndexError LookupError ZeroDivisionError"
    " ArithmeticError OverflowError RuntimeError NotImplementedError AttributeError StopIteration"
).split()
METHODS = (
    "append clear copy count endswith extend find get index insert isalnum isalpha isdigit islower isspace isupper"
    " items join keys ljust lower lstrip partition pop remove replace reverse rfind rjust rpartition rsplit rstrip"
    " setdefault split splitlines startswith strip update upper values zfill bit_length"
).split()
BANNED_WORDS = (
    "type typing typing_extensions enum Enum IntEnum StrEnum Flag IntFlag Generic Protocol ABC ABCMeta namedtuple"
    " NamedTuple TypedDict TYPE_CHECKING abstractmethod"
).split()
BANNED_NAMES = "register mro elements open input version_info with_traceback add_note".split()


def files():
    return sorted(path for path in PACKAGE.iterdir() if path.name != "__pycache__")


def nodes():
    for path in files():
        for node in ast.walk(ast.parse(path.read_text())):
            yield path.name, node


def bound_names(tree):
    for node in ast.walk(tree):
        if isinstance(node, (ast.FunctionDef, ast.ClassDef)):
            yield node.name
        elif isinstance(node, ast.arg):
            yield node.arg
        elif isinstance(node, ast.Name) and isinstance(node.ctx, ast.Store):
            yield node.id
        elif isinstance(node, ast.Attribute) and isinstance(node.ctx, ast.Store):
            yield node.attr


class Form(unittest.TestCase):
    def test_files(self):
        for path in files():
            self.assertRegex(path.name, r"^[a-z][a-z0-9_]*\.py$|^__init__\.py$")
            text = path.read_text()
            self.assertRegex(text, r"\A[\n -~]*\Z", path.name)
            lines = text.splitlines()
            self.assertLessEqual(len(lines), 400, path.name)
            self.assertLessEqual(max(len(line) for line in lines), 120, path.name)
            words = re.findall(r"\w+", text)
            self.assertEqual([word for word in words if word in BANNED_WORDS], [], path.name)
            self.assertNotRegex(text, "dataclass|overload|contextmanager")

    def test_statements_and_expressions(self):
        for name, node in nodes():
            where = (name, getattr(node, "lineno", 0), node)
            if isinstance(node, ast.stmt):
                self.assertIsInstance(node, STATEMENTS, where)
            if isinstance(node, ast.expr):
                self.assertIsInstance(node, EXPRESSIONS, where)
            if isinstance(node, ast.Constant):
                self.assertIsInstance(node.value, (int, str, type(None)), where)
            if isinstance(node, ast.BinOp):
                self.assertNotIsInstance(node.op, ast.Div, where)
            if isinstance(node, ast.comprehension):
                self.assertLessEqual(len(node.ifs), 1, where)
            if isinstance(node, ast.ListComp):
                self.assertEqual(len(node.generators), 1, where)
            if isinstance(node, (ast.For, ast.While)):
                self.assertEqual(node.orelse, [], where)
            if isinstance(node, ast.Assign):
                self.assertEqual(len(node.targets), 1, where)

    def test_functions(self):
        for name, node in nodes():
            if isinstance(node, ast.FunctionDef):
                self.assertLessEqual(node.end_lineno - node.lineno + 1, 40, (name, node.name))
                self.assertEqual(node.decorator_list, [])
                self.assertIsNone(node.args.vararg)
                self.assertIsNone(node.args.kwarg)
                self.assertEqual(node.args.kwonlyargs, [])

    def test_imports(self):
        for name, node in nodes():
            if isinstance(node, ast.ImportFrom):
                self.assertEqual(node.level, 0, name)
                self.assertRegex(node.module, r"^trackverdict\.[a-z]+$", name)
                self.assertNotIn("*", [alias.name for alias in node.names])

    def test_bound_names(self):
        fixed = [name for name in dir(builtins) if not name.startswith("__")]
        for path in files():
            for name in bound_names(ast.parse(path.read_text())):
                self.assertNotIn(name, fixed + BANNED_NAMES, path.name)
                self.assertRegex(name, r"^[A-Za-z][A-Za-z0-9_]*$|^__init__$", path.name)

    def test_names_of_pythons_own(self):
        for name, node in nodes():
            if isinstance(node, ast.Name) and node.id in dir(builtins):
                self.assertIn(node.id, OWN_NAMES, (name, node.lineno))

    def test_methods(self):
        for name, node in nodes():
            if isinstance(node, ast.Call) and isinstance(node.func, ast.Attribute):
                self.assertIn(node.func.attr, METHODS, (name, node.lineno))


if __name__ == "__main__":
    unittest.main()
