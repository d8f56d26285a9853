"""Some rules of the language in which the package is written: sizes, signs, imports, what is never used."""

import ast
import pathlib
import unittest

PACKAGE = pathlib.Path(__file__).parent.parent / "foxborders"
LIBRARY = ("heapq", "math", "itertools", "collections")
BARRED = (ast.AsyncFunctionDef, ast.Await, ast.Global, ast.Import, ast.Div)


def files():
    return sorted(path for path in PACKAGE.rglob("*") if path.is_file() and "__pycache__" not in path.parts)


class Rules(unittest.TestCase):

    def test_files(self):
        self.assertIn(PACKAGE / "__init__.py", files())
        for path in files():
            self.assertRegex(path.name, r"^[a-z0-9_]+\.py$")

    def test_signs_and_sizes(self):
        for path in files():
            text = path.read_text(encoding="utf-8")
            lines = text.split("\n")
            self.assertLessEqual(len(lines), 399, path)
            for line in lines:
                self.assertLessEqual(len(line), 120, path)
                self.assertRegex(line, r"^[ -~]*$", path)

    def test_functions(self):
        for path in files():
            for node in ast.walk(ast.parse(path.read_text(encoding="utf-8"))):
                if isinstance(node, ast.FunctionDef):
                    self.assertLessEqual(node.end_lineno - node.lineno + 1, 40, (path, node.name))

    def test_imports_and_statements(self):
        for path in files():
            for node in ast.walk(ast.parse(path.read_text(encoding="utf-8"))):
                self.assertNotIsInstance(node, BARRED, path)
                self.assertFalse(isinstance(node, ast.Constant) and isinstance(node.value, float), path)
                if isinstance(node, ast.ImportFrom):
                    self.assertEqual(node.level, 0, path)
                    self.assertTrue(node.module.startswith("foxborders.") or node.module in LIBRARY, path)
