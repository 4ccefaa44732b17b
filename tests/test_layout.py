"""What the files of the package look like: sizes, signs, and nothing else beside them."""

import ast
import pathlib
import unittest

PACKAGE = pathlib.Path(__file__).resolve().parent.parent / "stillrounds"


class Layout(unittest.TestCase):
    def setUp(self):
        self.files = sorted(path for path in PACKAGE.iterdir() if path.name != "__pycache__")

    def test_nothing_but_files_of_python(self):
        self.assertTrue((PACKAGE / "__init__.py").is_file())
        for path in self.files:
            self.assertTrue(path.is_file() and path.suffix == ".py", path.name)

    def test_sizes_and_signs(self):
        for path in self.files:
            text = path.read_text(encoding="utf-8")
            lines = text.split("\n")
            self.assertLess(len(lines), 400, path.name)
            self.assertLessEqual(max(len(line) for line in lines), 120, path.name)
            self.assertTrue(all(sign == "\n" or " " <= sign <= "~" for sign in text), path.name)
            self.assertTrue(text.endswith("\n") and not text.endswith("\n\n"), path.name)

    def test_functions_are_small(self):
        for path in self.files:
            for node in ast.walk(ast.parse(path.read_text(encoding="utf-8"))):
                if isinstance(node, ast.FunctionDef):
                    self.assertLessEqual(node.end_lineno - node.lineno + 1, 40, f"{path.name} {node.name}")

    def test_imports_are_of_the_package_alone(self):
        for path in self.files:
            for node in ast.walk(ast.parse(path.read_text(encoding="utf-8"))):
                self.assertNotIsInstance(node, ast.Import, path.name)
                if isinstance(node, ast.ImportFrom):
                    self.assertTrue(node.module.startswith("stillrounds."), path.name)
