"""The form of the package's files: those rules of the language that a plain look can see."""

import ast
import builtins
import os
import unittest
import warnings

ROOT = os.path.dirname(os.path.dirname(os.path.abspath(__file__)))
PACKAGE = os.path.join(ROOT, "nightdeal")
LIBRARY = {"heapq", "math", "itertools", "collections"}
BUILTINS = set(
    "len range enumerate zip min max sum abs sorted reversed int str bool bytes list tuple dict set frozenset "
    "isinstance ord repr any all divmod pow getattr hasattr setattr iter next map super property staticmethod "
    "classmethod Exception ValueError TypeError KeyError IndexError LookupError ZeroDivisionError ArithmeticError "
    "OverflowError RuntimeError NotImplementedError AttributeError StopIteration NotImplemented".split()
)
ALL_BUILTINS = set(dir(builtins))


def files():
    """The texts of the package's files, by their names."""
    out = {}
    for name in sorted(os.listdir(PACKAGE)):
        if name != "__pycache__":
            with open(os.path.join(PACKAGE, name), encoding="utf-8", newline="") as file:
                out[name] = file.read()
    return out


def trees():
    return {name: ast.parse(text) for name, text in files().items()}


def nodes(kind):
    """All nodes of a kind, with the names of their files."""
    return [(name, node) for name, tree in trees().items() for node in ast.walk(tree) if isinstance(node, kind)]


class FormTest(unittest.TestCase):

    def test_files(self):
        self.assertIn("__init__.py", files())
        for name in files():
            self.assertRegex(name, r"^[a-z0-9_]+\.py$")

    def test_signs(self):
        for name, text in files().items():
            self.assertEqual({sign for sign in text if sign != "\n" and not " " <= sign <= "~"}, set(), name)

    def test_no_row_has_a_warning(self):
        with warnings.catch_warnings():
            warnings.simplefilter("error")
            for name, text in files().items():
                compile(text, name, "exec")

    def test_sizes(self):
        for name, text in files().items():
            rows = text.split("\n")
            self.assertLessEqual(len(rows), 399, name)
            self.assertLessEqual(max(map(len, rows)), 120, name)
        for name, node in nodes((ast.FunctionDef, ast.Lambda)):
            self.assertLessEqual(node.end_lineno - node.lineno + 1, 40, (name, node.lineno))

    def test_imports(self):
        for name, node in nodes(ast.ImportFrom):
            self.assertEqual(node.level, 0, name)
            self.assertNotIn("*", [one.name for one in node.names], name)
            if not node.module.startswith("nightdeal."):
                self.assertIn(node.module, LIBRARY, name)
                continue
            with open(os.path.join(ROOT, *node.module.split(".")) + ".py", encoding="utf-8") as file:
                bound = bound_by(ast.parse(file.read()))
            for one in node.names:
                self.assertIn(one.name, bound, (name, node.lineno))

    def test_module_level(self):
        kinds = (ast.ImportFrom, ast.FunctionDef, ast.ClassDef, ast.Assign, ast.Expr)
        for name, tree in trees().items():
            for node in tree.body:
                self.assertIsInstance(node, kinds, (name, node.lineno))
                if isinstance(node, ast.Expr):
                    self.assertIsInstance(node.value, ast.Constant, (name, node.lineno))

    def test_statements_and_signs_that_are_barred(self):
        for name, node in nodes((ast.Global, ast.AsyncFunctionDef, ast.Await, ast.Import, ast.Div, ast.MatMult)):
            self.fail((name, getattr(node, "lineno", type(node).__name__)))

    def test_constants(self):
        for name, node in nodes(ast.Constant):
            self.assertNotIsInstance(node.value, (float, complex), (name, node.lineno))
            if isinstance(node.value, str):
                self.assertNotIn("%", node.value, (name, node.lineno))

    def test_builtins(self):
        for name, node in nodes(ast.Name):
            if node.id in ALL_BUILTINS:
                self.assertIn(node.id, BUILTINS, (name, node.lineno))
                self.assertIsInstance(node.ctx, ast.Load, (name, node.lineno))
        for name, node in nodes(ast.arg):
            self.assertNotIn(node.arg, ALL_BUILTINS, (name, node.lineno))


def bound_by(tree):
    """The names that a file defines itself, without those that it imports."""
    out = {node.name for node in tree.body if isinstance(node, (ast.FunctionDef, ast.ClassDef))}
    for node in tree.body:
        if isinstance(node, ast.Assign):
            out.update(target.id for target in node.targets)
    return out
