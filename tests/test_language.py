"""The rules of the language that can be seen at a glance: files, imports, sizes, characters, and a few words."""

import ast
import pathlib
import unittest

PACKAGE = pathlib.Path(__file__).resolve().parent.parent / "anyshift"
FILES = sorted(PACKAGE.glob("*.py"))
LIBRARY = {"heapq", "math", "itertools", "collections"}
WORDS = {
    "abs", "all", "any", "bool", "dict", "divmod", "enumerate", "int", "isinstance", "len", "list", "max", "min", "ord",
    "range", "repr", "reversed", "set", "sorted", "str", "sum", "tuple", "zip", "property", "super", "ValueError", "TypeError",
}
BUILTINS = set(dir(__import__("builtins")))


class TestLanguage(unittest.TestCase):
    def trees(self):
        """Each file of the package with its tree."""
        return [(path.name, ast.parse(path.read_text())) for path in FILES]

    def test_only_files_of_the_program(self):
        others = [path.name for path in PACKAGE.iterdir() if path not in FILES and path.name != "__pycache__"]
        self.assertEqual(others, [])
        self.assertIn("__init__.py", [path.name for path in FILES])

    def test_sizes_and_characters(self):
        for path in FILES:
            text = path.read_text(encoding="utf-8")
            lines = text.split("\n")
            self.assertLessEqual(len(lines), 399, path.name)
            self.assertLessEqual(max(len(line) for line in lines), 120, path.name)
            self.assertTrue(all(sign == "\n" or " " <= sign <= "~" for sign in text), path.name)

    def test_functions_are_small(self):
        for name, tree in self.trees():
            for node in ast.walk(tree):
                if isinstance(node, ast.FunctionDef):
                    self.assertLessEqual(node.end_lineno - node.lineno + 1, 40, (name, node.name))

    def test_imports(self):
        for name, tree in self.trees():
            for node in ast.walk(tree):
                self.assertNotIsInstance(node, ast.Import, name)
                if isinstance(node, ast.ImportFrom):
                    self.assertIn(node, tree.body, name)
                    self.assertTrue(node.module.startswith("anyshift.") or node.module in LIBRARY, (name, node.module))

    def test_words(self):
        barred = (ast.Global, ast.AsyncFunctionDef, ast.Div, ast.GeneratorExp)
        for name, tree in self.trees():
            for node in ast.walk(tree):
                self.assertNotIsInstance(node, barred, (name, getattr(node, "lineno", None)))
                if isinstance(node, ast.Name) and node.id in BUILTINS:
                    self.assertIn(node.id, WORDS, (name, node.lineno))
                if isinstance(node, ast.Constant):
                    self.assertNotIsInstance(node.value, (float, complex), name)
                    self.assertNotIn("%", str(node.value), name)

    def test_what_is_bound_means_nothing_else(self):
        for name, tree in self.trees():
            bound = {alias.name for node in tree.body if isinstance(node, ast.ImportFrom) for alias in node.names}
            bound |= {node.name for node in tree.body if isinstance(node, ast.ClassDef)}
            stored = {node.id for node in ast.walk(tree) if isinstance(node, ast.Name) and isinstance(node.ctx, ast.Store)}
            stored |= {node.arg for node in ast.walk(tree) if isinstance(node, ast.arg)}
            self.assertEqual(stored & (bound | BUILTINS), set(), name)


if __name__ == "__main__":
    unittest.main()
