"""The rules of ../shared/LANGUAGE.md that a short test can see, for each file of the package."""

import ast
import pathlib
import unittest

PACKAGE = pathlib.Path(__file__).resolve().parent.parent / "ownlabels"
FILES = sorted(PACKAGE.glob("**/*.py"))
LIBRARY = ("collections", "heapq", "itertools", "math")
AT_MODULE_LEVEL = (ast.Expr, ast.ImportFrom, ast.FunctionDef, ast.ClassDef, ast.Assign)


class LanguageTest(unittest.TestCase):
    def test_the_folder_contains_python_files_only(self):
        self.assertIn(PACKAGE / "__init__.py", FILES)
        for path in PACKAGE.rglob("*"):
            if "__pycache__" not in path.parts:
                with self.subTest(path=path):
                    self.assertEqual(path.suffix, ".py")
                    self.assertEqual(path.name, path.name.lower())

    def test_characters_and_sizes(self):
        for path in FILES:
            lines = path.read_bytes().decode("ascii").split("\n")
            self.assertLessEqual(len(lines), 399, path)
            for number, line in enumerate(lines, 1):
                with self.subTest(path=path, number=number):
                    self.assertLessEqual(len(line), 120)
                    self.assertTrue(line.isprintable())

    def test_functions_have_at_most_40_lines(self):
        for path in FILES:
            for node in ast.walk(ast.parse(path.read_text(encoding="ascii"))):
                if isinstance(node, ast.FunctionDef):
                    with self.subTest(path=path, name=node.name):
                        self.assertLessEqual(node.end_lineno - node.lineno + 1, 40)

    def test_module_level(self):
        for path in FILES:
            for node in ast.parse(path.read_text(encoding="ascii")).body:
                with self.subTest(path=path, line=node.lineno):
                    self.assertIsInstance(node, AT_MODULE_LEVEL)
                    if isinstance(node, ast.ImportFrom):
                        self.assertEqual(node.level, 0)
                        self.assertIn(node.module.split(".")[0], ("ownlabels", *LIBRARY))
                    if isinstance(node, ast.Expr):
                        self.assertIsInstance(node.value, ast.Constant)


if __name__ == "__main__":
    unittest.main()
