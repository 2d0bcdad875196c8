"""The rules of the language that can be seen at a glance: files, imports, sizes, characters, words, and classes."""

import ast
import pathlib
import unittest

PACKAGE = pathlib.Path(__file__).resolve().parent.parent / "anyshift"
FILES = sorted(PACKAGE.glob("*.py"))
LIBRARY = {"heapq", "math", "itertools", "collections"}
WORDS = {
    "abs", "all", "any", "bool", "dict", "divmod", "enumerate", "int", "isinstance", "len", "list", "max", "min", "ord",
    "range", "repr", "reversed", "set", "sorted", "str", "sum", "tuple", "zip", "property", "super", "ValueError", "TypeError",
}
BUILTINS = set(dir(__import__("builtins")))
METHODS = {"__init__", "__eq__", "__repr__", "__len__", "__call__", "__iter__", "__getitem__", "__contains__"}


class TestLanguage(unittest.TestCase):
    def trees(self):
        """Each file of the package with its tree."""
        return [(path.name, ast.parse(path.read_text())) for path in FILES]

    def test_only_files_of_the_program(self):
        others = [path.name for path in PACKAGE.iterdir() if path not in FILES and path.name != "__pycache__"]
        self.assertEqual(others, [])
        self.assertIn("__init__.py", [path.name for path in FILES])

    def test_sizes_and_characters(self):
        for path in FILES:
            text = path.read_text(encoding="utf-8")
            lines = text.split("\n")
            self.assertLessEqual(len(lines), 399, path.name)
            self.assertLessEqual(max(len(line) for line in lines), 120, path.name)
            self.assertTrue(all(sign == "\n" or " " <= sign <= "~" for sign in text), path.name)

    def test_functions_are_small(self):
        for name, tree in self.trees():
            for node in ast.walk(tree):
                if isinstance(node, ast.FunctionDef):
                    self.assertLessEqual(node.end_lineno - node.lineno + 1, 40, (name, node.name))

    def test_imports(self):
        for name, tree in self.trees():
            for node in ast.walk(tree):
                self.assertNotIsInstance(node, ast.Import, name)
                if isinstance(node, ast.ImportFrom):
                    self.assertIn(node, tree.body, name)
                    self.assertTrue(node.module.startswith("anyshift.") or node.module in LIBRARY, (name, node.module))

    def test_words(self):
        barred = (ast.Global, ast.AsyncFunctionDef, ast.Div, ast.GeneratorExp)
        for name, tree in self.trees():
            for node in ast.walk(tree):
                self.assertNotIsInstance(node, barred, (name, getattr(node, "lineno", None)))
                if isinstance(node, ast.Name) and node.id in BUILTINS:
                    self.assertIn(node.id, WORDS, (name, node.lineno))
                if isinstance(node, ast.Constant):
                    self.assertNotIsInstance(node.value, (float, complex), name)
                    self.assertNotIn("%", str(node.value), name)

    def test_what_is_bound_means_nothing_else(self):
        for name, tree in self.trees():
            bound = {alias.name for node in tree.body if isinstance(node, ast.ImportFrom) for alias in node.names}
            bound |= {node.name for node in tree.body if isinstance(node, ast.ClassDef)}
            stored = {node.id for node in ast.walk(tree) if isinstance(node, ast.Name) and isinstance(node.ctx, ast.Store)}
            stored |= {node.arg for node in ast.walk(tree) if isinstance(node, ast.arg)}
            self.assertEqual(stored & (bound | BUILTINS), set(), name)

    def test_classes(self):
        for name, tree in self.trees():
            self.assertNotIn("Meta", ast.unparse(tree), name)
            for node in ast.walk(tree):
                if isinstance(node, ast.ClassDef):
                    methods = {row.name for row in node.body if isinstance(row, ast.FunctionDef)}
                    self.assertEqual({each for each in methods if each.startswith("__")} - METHODS, set(), (name, node.name))
                    self.assertEqual("__getitem__" in methods, "__iter__" in methods, (name, node.name))
                    self.assertEqual(len(methods), len([row for row in node.body if isinstance(row, ast.FunctionDef)]))
                    self.assertEqual(node.decorator_list, [])
                if isinstance(node, ast.Attribute) and node.attr.startswith("__"):
                    self.assertIn(node.attr, ("__class__", "__name__", "__init__"), (name, node.lineno))

    def test_properties_change_nothing(self):
        for name, tree in self.trees():
            for node in ast.walk(tree):
                if isinstance(node, ast.FunctionDef) and (node.decorator_list or node.name in METHODS - {"__init__", "__call__"}):
                    stored = [each for each in ast.walk(node) if isinstance(each, (ast.Assign, ast.AugAssign, ast.Delete))]
                    self.assertEqual(stored, [], (name, node.name))

    def test_what_is_done_finally(self):
        for name, tree in self.trees():
            for node in ast.walk(tree):
                if isinstance(node, ast.Try):
                    self.assertEqual(node.handlers, [], name)
                    for row in node.finalbody:
                        self.assertIsInstance(row, ast.Assign, name)
                        self.assertFalse([each for each in ast.walk(row) if isinstance(each, (ast.Call, ast.Subscript))], name)


if __name__ == "__main__":
    unittest.main()
