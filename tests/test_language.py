"""Some rules of the language subset that the files of the package keep."""

import ast
import builtins
import os
import unittest

FOLDER = os.path.join(os.path.dirname(os.path.dirname(os.path.abspath(__file__))), "anyworker")

BUILTINS = (
    "len range enumerate zip min max sum abs sorted reversed int str bool list tuple dict set isinstance ord "
    "repr any all divmod super ValueError TypeError KeyError IndexError LookupError NotImplemented iter next property"
).split()

DUNDERS = (
    "__init__ __eq__ __len__ __iter__ __getitem__ __setitem__ __call__ __add__ __radd__ __sub__ __rsub__ __mul__ "
    "__rmul__ __floordiv__ __and__ __rand__ __or__ __ror__ __invert__"
).split()


def files():
    told = {}
    for name in sorted(os.listdir(FOLDER)):
        if name != "__pycache__":
            with open(os.path.join(FOLDER, name), encoding="utf-8", newline="") as file:
                told[name] = file.read()
    return told


class Language(unittest.TestCase):
    def setUp(self):
        self.texts = files()
        self.trees = {name: ast.parse(text) for name, text in self.texts.items()}

    def nodes(self, *kinds):
        for name, tree in self.trees.items():
            for node in ast.walk(tree):
                if isinstance(node, kinds):
                    yield "%s:%s" % (name, getattr(node, "lineno", 0)), node

    def test_files(self):
        for name, text in self.texts.items():
            self.assertRegex(name, r"^(__init__|[a-z][a-z0-9_]*)\.py$")
            self.assertLessEqual(len(text.splitlines()), 399, name)
            self.assertTrue(all(sign == "\n" or " " <= sign <= "~" for sign in text), name)
            self.assertLessEqual(max(len(line) for line in text.splitlines()), 120, name)

    def test_functions(self):
        for at, node in self.nodes(ast.FunctionDef):
            self.assertLessEqual(node.end_lineno - node.lineno + 1, 40, at)
            for decorator in node.decorator_list:
                self.assertEqual(ast.unparse(decorator), "property", at)
            if node.name.startswith("__"):
                self.assertIn(node.name, DUNDERS, at)

    def test_module_level(self):
        for name, tree in self.trees.items():
            for node in tree.body:
                self.assertIsInstance(
                    node, (ast.Expr, ast.ImportFrom, ast.FunctionDef, ast.ClassDef, ast.Assign), name)
                if isinstance(node, ast.Expr):
                    self.assertIsInstance(node.value, ast.Constant, name)

    def test_imports_from_the_package_without_circles(self):
        reached = {name[:-3]: [] for name in self.trees}
        for at, node in self.nodes(ast.Import, ast.ImportFrom):
            self.assertIsInstance(node, ast.ImportFrom, at)
            folder, name = node.module.split(".")
            self.assertEqual((folder, node.level), ("anyworker", 0), at)
            body = self.trees[name + ".py"].body
            made = [part.name for part in body if hasattr(part, "name")]
            made += [part.targets[0].id for part in body if isinstance(part, ast.Assign)]
            for alias in node.names:
                self.assertIn(alias.name, made, at)
            reached[at.split(".py:")[0]].append(name)
        while reached:
            last = [name for name in reached if not any(other in reached for other in reached[name])]
            self.assertTrue(last, reached)
            for name in last:
                del reached[name]

    def test_no_other_builtins(self):
        for at, node in self.nodes(ast.Name):
            # A doctest that ran before may have left a "_" among the builtins.
            if node.id != "_" and hasattr(builtins, node.id):
                self.assertIn(node.id, BUILTINS, at)
                self.assertIsInstance(node.ctx, ast.Load, at)

    def test_no_barred_parts(self):
        barred = (ast.AsyncFunctionDef, ast.Global, ast.Div, ast.GeneratorExp, ast.Yield, ast.AugAssign)
        for at, node in self.nodes(*barred):
            self.fail(at)
        for at, node in self.nodes(ast.Constant):
            self.assertNotIsInstance(node.value, float, at)
            if isinstance(node.value, str):
                self.assertNotIn("%", node.value, at)
        for at, node in self.nodes(ast.Attribute):
            self.assertNotIn(node.attr, ["sort", "args", "keys"], at)
