"""The rules of the language that can be seen from a file alone, asked of each file of the package."""

import ast
import builtins
import re
import unittest
from pathlib import Path

PACKAGE = Path(__file__).resolve().parent.parent / "backorder"

STATEMENTS = (ast.Assign, ast.AugAssign, ast.If, ast.While, ast.For, ast.Return, ast.Break, ast.Continue, ast.Pass,
              ast.Raise, ast.Try, ast.Expr, ast.FunctionDef, ast.ClassDef, ast.ImportFrom)
UNUSED = (ast.Div, ast.MatMult, ast.SetComp, ast.DictComp, ast.GeneratorExp, ast.NamedExpr, ast.Starred, ast.Await)
BUILT_IN = """len range enumerate zip min max sum abs sorted reversed int str bool list tuple dict set isinstance ord repr
any all divmod Exception ValueError TypeError KeyError IndexError LookupError ZeroDivisionError ArithmeticError
OverflowError RuntimeError NotImplementedError AttributeError StopIteration""".split()
METHODS = """append clear copy count endswith extend find get index insert isalnum isalpha isdigit islower isspace isupper
items join keys ljust lower lstrip partition pop remove replace reverse rfind rjust rpartition rsplit rstrip setdefault
split splitlines startswith strip update upper values zfill bit_length""".split()
UNSAID = """type typing typing_extensions enum Enum IntEnum StrEnum Flag IntFlag Generic Protocol ABC ABCMeta namedtuple
NamedTuple TypedDict TYPE_CHECKING abstractmethod""".split()
TWO_UNDERSCORES = ("__init__", "__eq__", "__repr__", "__str__", "__len__")


def files():
    return sorted(PACKAGE.glob("**/*.py"))


def trees():
    return [(path.name, ast.parse(path.read_text())) for path in files()]


def bound_names(node):
    if isinstance(node, (ast.FunctionDef, ast.ClassDef)):
        return [node.name]
    if isinstance(node, ast.arg):
        return [node.arg]
    if isinstance(node, ast.Name) and isinstance(node.ctx, ast.Store):
        return [node.id]
    return []


class Language(unittest.TestCase):
    def test_files_and_signs(self):
        self.assertIn(PACKAGE / "__init__.py", files())
        for path in PACKAGE.rglob("*"):
            if "__pycache__" not in path.parts:
                self.assertRegex(path.name, r"\A([a-z0-9_]+\.py|[a-z0-9_]+)\Z")
        for path in files():
            self.assertRegex(path.read_bytes(), rb"\A[\n -~]*\Z", path.name)

    def test_sizes(self):
        for path in files():
            rows = path.read_text().split("\n")
            self.assertLessEqual(len(rows), 400, path.name)
            self.assertLessEqual(max(len(row) for row in rows), 120, path.name)
        for name, tree in trees():
            for node in ast.walk(tree):
                if isinstance(node, ast.FunctionDef):
                    self.assertLessEqual(node.end_lineno - node.lineno + 1, 40, (name, node.name))

    def test_unsaid_words(self):
        for path in files():
            words = re.findall(r"\w+", path.read_text())
            self.assertEqual([word for word in words if word in UNSAID], [], path.name)
            self.assertNotRegex(path.read_text(), "dataclass|overload|contextmanager")

    def test_statements_and_expressions(self):
        for name, tree in trees():
            for node in ast.walk(tree):
                where = (name, getattr(node, "lineno", 0), node)
                self.assertNotIsInstance(node, UNUSED, where)
                if isinstance(node, ast.stmt):
                    self.assertIsInstance(node, STATEMENTS, where)
                if isinstance(node, ast.Assign):
                    self.assertEqual(len(node.targets), 1, where)
                    self.assertNotIsInstance(node.targets[0], (ast.Tuple, ast.List), where)
                if isinstance(node, (ast.For, ast.While)):
                    self.assertEqual(node.orelse, [], where)
                if isinstance(node, ast.Try):
                    self.assertEqual(node.finalbody, [], where)
                if isinstance(node, ast.ListComp):
                    self.assertEqual(len(node.generators), 1, where)
                if isinstance(node, ast.Constant):
                    self.assertNotIsInstance(node.value, (float, complex, bytes), where)
                if isinstance(node, (ast.FunctionDef, ast.ClassDef)):
                    self.assertEqual(node.decorator_list, [], where)

    def test_imports(self):
        modules = ["backorder." + path.stem for path in files()]
        for name, tree in trees():
            for node in ast.walk(tree):
                if isinstance(node, ast.ImportFrom):
                    self.assertEqual(node.level, 0, name)
                    self.assertIn(node.module, modules, name)
                    self.assertIn(node, tree.body, name)
                    self.assertNotIn("*", [drawn.name for drawn in node.names], name)

    def test_names(self):
        for name, tree in trees():
            for node in ast.walk(tree):
                for bound in bound_names(node):
                    self.assertFalse(hasattr(builtins, bound), (name, bound))
                    self.assertTrue(not bound.startswith("_") or bound in TWO_UNDERSCORES, (name, bound))
                if isinstance(node, ast.Name) and hasattr(builtins, node.id):
                    self.assertIn(node.id, BUILT_IN, name)

    def test_methods(self):
        for name, tree in trees():
            own = [method.name for made in ast.walk(tree) if isinstance(made, ast.ClassDef) for method in made.body
                   if isinstance(method, ast.FunctionDef)]
            for node in ast.walk(tree):
                if isinstance(node, ast.Call) and isinstance(node.func, ast.Attribute):
                    self.assertIn(node.func.attr, METHODS + own, (name, node.lineno))


if __name__ == "__main__":
    unittest.main()
