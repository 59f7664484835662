"""The rules of the language that can be seen from a file alone, asked of each file of the package."""

import ast
import builtins
import re
import unittest
from pathlib import Path

PACKAGE = Path(__file__).resolve().parent.parent / "backorder"

STATEMENTS = (ast.Assign, ast.AugAssign, ast.If, ast.While, ast.For, ast.Return, ast.Break, ast.Continue, ast.Pass,
              ast.Raise, ast.Try, ast.Expr, ast.FunctionDef, ast.ClassDef, ast.ImportFrom)
UNUSED = (ast.Div, ast.MatMult, ast.SetComp, ast.DictComp, ast.GeneratorExp, ast.NamedExpr, ast.Starred, ast.Await)
BUILT_IN = """len range enumerate zip min max sum abs sorted reversed int str bool list tuple dict set isinstance ord repr
any all divmod Exception ValueError TypeError KeyError IndexError LookupError ZeroDivisionError ArithmeticError
OverflowError RuntimeError NotImplementedError AttributeError StopIteration""".split()
METHODS = """append clear copy count endswith extend find get index insert isalnum isalpha isdigit islower isspace isupper
items join keys ljust lower lstrip partition pop remove replace reverse rfind rjust rpartition rsplit rstrip setdefault
split splitlines startswith strip update upper values zfill bit_length""".split()
UNSAID = """type typing typing_extensions enum Enum IntEnum StrEnum Flag IntFlag Generic Protocol ABC ABCMeta namedtuple
NamedTuple TypedDict TYPE_CHECKING abstractmethod""".split()
WALKED = ("zip", "enumerate", "reversed", "range", "items", "keys", "values")
WALKERS = ("list", "tuple", "dict", "sorted", "sum", "any", "all", "enumerate", "zip", "min", "max")
TWO_UNDERSCORES = ("__init__", "__eq__", "__repr__", "__str__", "__len__")


def files():
    return sorted(PACKAGE.glob("**/*.py"))


def trees():
    return [(path.name, ast.parse(path.read_text())) for path in files()]


def bound_names(node):
    if isinstance(node, (ast.FunctionDef, ast.ClassDef)):
        return [node.name]
    if isinstance(node, ast.arg):
        return [node.arg]
    if isinstance(node, ast.Name) and isinstance(node.ctx, ast.Store):
        return [node.id]
    return []


def own_methods():
    return [method.name for name, tree in trees() for made in ast.walk(tree) if isinstance(made, ast.ClassDef)
            for method in made.body if isinstance(method, ast.FunctionDef)]


def top_names(tree):
    names = [node.name for node in tree.body if isinstance(node, (ast.FunctionDef, ast.ClassDef))]
    return names + [node.targets[0].id for node in tree.body if isinstance(node, ast.Assign)]


def parents(tree):
    return {child: node for node in ast.walk(tree) for child in ast.iter_child_nodes(node)}


def called(node):
    """The name of the function that a node calls, or of the method."""
    if not isinstance(node, ast.Call):
        return ""
    return node.func.id if isinstance(node.func, ast.Name) else node.func.attr


class Language(unittest.TestCase):
    def test_files_and_signs(self):
        self.assertIn(PACKAGE / "__init__.py", files())
        for path in PACKAGE.rglob("*"):
            if "__pycache__" not in path.parts:
                self.assertRegex(path.name, r"\A([a-z0-9_]+\.py|[a-z0-9_]+)\Z")
        for path in files():
            self.assertRegex(path.read_bytes(), rb"\A[\n -~]*\Z", path.name)

    def test_sizes(self):
        for path in files():
            rows = path.read_text().split("\n")
            self.assertLessEqual(len(rows), 400, path.name)
            self.assertLessEqual(max(len(row) for row in rows), 120, path.name)
        for name, tree in trees():
            for node in ast.walk(tree):
                if isinstance(node, ast.FunctionDef):
                    self.assertLessEqual(node.end_lineno - node.lineno + 1, 40, (name, node.name))

    def test_unsaid_words(self):
        for path in files():
            words = re.findall(r"\w+", path.read_text())
            self.assertEqual([word for word in words if word in UNSAID], [], path.name)
            self.assertNotRegex(path.read_text(), "dataclass|overload|contextmanager")

    def test_statements_and_expressions(self):
        for name, tree in trees():
            for node in ast.walk(tree):
                where = (name, getattr(node, "lineno", 0), node)
                self.assertNotIsInstance(node, UNUSED, where)
                if isinstance(node, ast.stmt):
                    self.assertIsInstance(node, STATEMENTS, where)
                if isinstance(node, ast.Assign):
                    self.assertEqual(len(node.targets), 1, where)
                    self.assertNotIsInstance(node.targets[0], (ast.Tuple, ast.List), where)
                if isinstance(node, (ast.For, ast.While)):
                    self.assertEqual(node.orelse, [], where)
                if isinstance(node, ast.Try):
                    self.assertEqual(node.finalbody, [], where)
                if isinstance(node, ast.ListComp):
                    self.assertEqual(len(node.generators), 1, where)
                if isinstance(node, ast.Constant):
                    self.assertNotIsInstance(node.value, (float, complex, bytes), where)
                if isinstance(node, (ast.FunctionDef, ast.ClassDef)):
                    self.assertEqual(node.decorator_list, [], where)

    def test_imports(self):
        modules = ["backorder." + path.stem for path in files()]
        for name, tree in trees():
            for node in ast.walk(tree):
                if isinstance(node, ast.ImportFrom):
                    self.assertEqual(node.level, 0, name)
                    self.assertIn(node.module, modules, name)
                    self.assertIn(node, tree.body, name)
                    self.assertNotIn("*", [drawn.name for drawn in node.names], name)

    def test_names(self):
        for name, tree in trees():
            for node in ast.walk(tree):
                for bound in bound_names(node):
                    if bound not in TWO_UNDERSCORES:
                        self.assertFalse(hasattr(builtins, bound), (name, bound))
                        self.assertFalse(bound.startswith("_"), (name, bound))
                if isinstance(node, ast.Name) and hasattr(builtins, node.id):
                    self.assertIn(node.id, BUILT_IN, name)

    def test_methods(self):
        own = own_methods()
        for name, tree in trees():
            for node in ast.walk(tree):
                if isinstance(node, ast.Call) and isinstance(node.func, ast.Attribute):
                    self.assertIn(node.func.attr, METHODS + own, (name, node.lineno))

    def test_own_methods_and_values(self):
        values = [node.attr for name, tree in trees() for node in ast.walk(tree)
                  if isinstance(node, ast.Attribute) and isinstance(node.ctx, ast.Store)]
        self.assertEqual(set(values) & set(own_methods()), set())
        for named in values + [method for method in own_methods() if method not in TWO_UNDERSCORES]:
            for kind in (str, int, list, tuple, dict, set, bytes):
                self.assertFalse(hasattr(kind, named), named)

    def test_the_top_of_a_file(self):
        for name, tree in trees():
            self.assertIsNotNone(ast.get_docstring(tree), name)
            bound = []
            for node in tree.body[1:]:
                self.assertIsInstance(node, (ast.ImportFrom, ast.FunctionDef, ast.ClassDef, ast.Assign), name)
                if isinstance(node, ast.Assign):
                    self.assertIsInstance(node.value, ast.Constant, name)
                    bound.append(node.targets[0].id)
                elif isinstance(node, ast.ImportFrom):
                    bound.extend(drawn.name for drawn in node.names)
                else:
                    bound.append(node.name)
            self.assertEqual(len(bound), len(set(bound)), name)

    def test_classes(self):
        for name, tree in trees():
            for node in ast.walk(tree):
                if isinstance(node, ast.ClassDef):
                    self.assertIn(node, tree.body, name)
                    self.assertLessEqual(len(node.bases), 1, name)
                    for part in node.body:
                        self.assertIsInstance(part, (ast.FunctionDef, ast.Pass), (name, node.name))

    def test_names_from_the_file_that_defines_them(self):
        defined = {"backorder." + path.stem: top_names(ast.parse(path.read_text())) for path in files()}
        for name, tree in trees():
            for node in tree.body:
                if isinstance(node, ast.ImportFrom):
                    for drawn in node.names:
                        self.assertIsNone(drawn.asname, name)
                        self.assertIn(drawn.name, defined[node.module], name)

    def test_no_files_draw_from_one_another(self):
        drawn = {path.stem: [node.module.split(".")[-1] for node in ast.parse(path.read_text()).body
                             if isinstance(node, ast.ImportFrom)] for path in files()}
        while drawn:
            free = [name for name in drawn if not set(drawn[name]) & set(drawn)]
            self.assertNotEqual(free, [], drawn)
            drawn = {name: drawn[name] for name in drawn if name not in free}

    def test_no_local_is_called_like_an_import_or_a_class(self):
        for name, tree in trees():
            taken = [drawn.name for node in tree.body if isinstance(node, ast.ImportFrom) for drawn in node.names]
            taken += [node.name for node in tree.body if isinstance(node, ast.ClassDef)]
            for node in ast.walk(tree):
                if isinstance(node, (ast.arg, ast.Name)):
                    for bound in bound_names(node):
                        self.assertNotIn(bound, taken, name)

    def test_functions(self):
        for name, tree in trees():
            for node in ast.walk(tree):
                if isinstance(node, ast.FunctionDef):
                    given = node.args
                    self.assertFalse(given.vararg or given.kwarg or given.kwonlyargs or given.posonlyargs, node.name)
                    self.assertTrue(all(told.annotation is None for told in given.args), node.name)
                    self.assertIsNone(node.returns, node.name)

    def test_walked_at_once(self):
        for name, tree in trees():
            above = parents(tree)
            for node in ast.walk(tree):
                if isinstance(node, ast.Call) and called(node) in WALKED:
                    user = above[node]
                    walked = isinstance(user, (ast.For, ast.comprehension)) and user.iter is node
                    self.assertTrue(walked or called(user) in WALKERS and user.args[0] is node, (name, node.lineno))

    def test_sets_are_not_kept(self):
        for name, tree in trees():
            above = parents(tree)
            for node in ast.walk(tree):
                self.assertNotIsInstance(node, ast.Set, name)
                if isinstance(node, ast.Call) and called(node) in ("set", "frozenset"):
                    self.assertIn(called(above[node]), ("sorted", "len"), (name, node.lineno))

    def test_comparisons_by_is(self):
        for name, tree in trees():
            for node in ast.walk(tree):
                if isinstance(node, ast.Compare) and any(isinstance(sign, (ast.Is, ast.IsNot)) for sign in node.ops):
                    self.assertIsInstance(node.comparators[0], ast.Constant, (name, node.lineno))

    def test_errors_taken_and_powers(self):
        for name, tree in trees():
            for node in ast.walk(tree):
                self.assertNotIsInstance(node, ast.Pow, name)
                if isinstance(node, ast.ExceptHandler):
                    self.assertEqual(node.type.id, "KeyError", (name, node.lineno))


if __name__ == "__main__":
    unittest.main()
