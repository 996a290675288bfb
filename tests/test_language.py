"""Tests of how the package is written: sizes, characters, words and imports."""

import ast
import pathlib
import re
import unittest

PACKAGE = pathlib.Path(__file__).resolve().parent.parent / "interruptruns"
BARRED = ("type", "typing", "enum", "Enum", "Flag", "Generic", "Protocol", "ABC", "namedtuple")
STATEMENTS = (ast.Global, ast.AsyncFunctionDef, ast.Import)


class LanguageTests(unittest.TestCase):
    def setUp(self):
        self.texts = {path.name: path.read_text() for path in PACKAGE.glob("*.py")}

    def test_the_folder_has_nothing_else(self):
        found = [path.name for path in PACKAGE.iterdir() if path.name != "__pycache__"]
        self.assertEqual(sorted(found), sorted(self.texts))
        self.assertIn("__init__.py", found)

    def test_sizes_and_characters(self):
        for name, text in self.texts.items():
            lines = text.split("\n")
            self.assertLess(len(lines), 400, name)
            self.assertLessEqual(max(len(line) for line in lines), 120, name)
            self.assertIsNone(re.search("[^ -~\n]", text), name)

    def test_functions_are_short(self):
        for name, text in self.texts.items():
            for node in ast.walk(ast.parse(text)):
                if isinstance(node, ast.FunctionDef):
                    self.assertLessEqual(node.end_lineno - node.lineno + 1, 40, (name, node.name))

    def test_words(self):
        for name, text in self.texts.items():
            for word in BARRED:
                self.assertNotIn(word, re.findall(r"\w+", text), name)

    def test_statements(self):
        for name, text in self.texts.items():
            for node in ast.walk(ast.parse(text)):
                self.assertNotIsInstance(node, STATEMENTS, name)
                if isinstance(node, ast.ImportFrom):
                    self.assertRegex(node.module, r"^interruptruns\.|^__future__$", name)
                    self.assertEqual(node.level, 0, name)


if __name__ == "__main__":
    unittest.main()
