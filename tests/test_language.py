"""Tests of how the package is written: sizes, characters, words and imports."""

import ast
import builtins
import pathlib
import re
import unittest

PACKAGE = pathlib.Path(__file__).resolve().parent.parent / "interruptruns"
BARRED = ("type", "typing", "enum", "Enum", "Flag", "Generic", "Protocol", "ABC", "namedtuple")
STATEMENTS = (ast.Global, ast.AsyncFunctionDef, ast.Import)


class LanguageTests(unittest.TestCase):
    def setUp(self):
        self.texts = {path.name: path.read_text() for path in PACKAGE.glob("*.py")}

    def test_the_folder_has_nothing_else(self):
        found = [path.name for path in PACKAGE.iterdir() if path.name != "__pycache__"]
        self.assertEqual(sorted(found), sorted(self.texts))
        self.assertIn("__init__.py", found)

    def test_sizes_and_characters(self):
        for name, text in self.texts.items():
            lines = text.split("\n")
            self.assertLess(len(lines), 400, name)
            self.assertLessEqual(max(len(line) for line in lines), 120, name)
            self.assertIsNone(re.search("[^ -~\n]", text), name)

    def test_functions_are_short(self):
        for name, text in self.texts.items():
            for node in ast.walk(ast.parse(text)):
                if isinstance(node, ast.FunctionDef):
                    self.assertLessEqual(node.end_lineno - node.lineno + 1, 40, (name, node.name))

    def test_words(self):
        for name, text in self.texts.items():
            for word in BARRED:
                self.assertNotIn(word, re.findall(r"\w+", text), name)

    def test_statements(self):
        for name, text in self.texts.items():
            for node in ast.walk(ast.parse(text)):
                self.assertNotIsInstance(node, STATEMENTS, name)
                if isinstance(node, ast.ImportFrom):
                    self.assertRegex(node.module, r"^interruptruns\.|^__future__$", name)
                    self.assertEqual(node.level, 0, name)

    def test_names_of_classes(self):
        """No name is a method here and an attribute there, or a property and one of these."""
        methods, properties, attributes = set(), set(), set()
        for text in self.texts.values():
            for node in ast.walk(ast.parse(text)):
                if isinstance(node, ast.ClassDef):
                    for part in node.body:
                        if isinstance(part, ast.FunctionDef):
                            (properties if part.decorator_list else methods).add(part.name)
                if isinstance(node, ast.Attribute) and isinstance(node.ctx, ast.Store):
                    attributes.add(node.attr)
        self.assertEqual(methods & attributes, set())
        self.assertEqual(properties & attributes, set())
        self.assertEqual(properties & methods, set())

    def test_names_of_variables(self):
        """No variable or parameter has the name of a builtin, or of a class, function or import of its file."""
        for name, text in self.texts.items():
            tree = ast.parse(text)
            taken = {node.name for node in tree.body if isinstance(node, (ast.ClassDef, ast.FunctionDef))}
            taken |= {alias.name for node in tree.body if isinstance(node, ast.ImportFrom) for alias in node.names}
            for node in ast.walk(tree):
                found = node.arg if isinstance(node, ast.arg) else None
                if isinstance(node, ast.Name) and isinstance(node.ctx, ast.Store):
                    found = node.id
                if found is not None:
                    self.assertNotIn(found, taken, name)
                    self.assertNotIn(found, dir(builtins), name)
                    self.assertFalse(found.startswith("_"), name)

    def test_imports_name_the_defining_file(self):
        for name, text in self.texts.items():
            for node in ast.parse(text).body:
                if isinstance(node, ast.ImportFrom):
                    there = ast.parse(self.texts[node.module.split(".")[-1] + ".py"]).body
                    defined = [getattr(part, "name", None) for part in there]
                    defined += [part.targets[0].id for part in there if isinstance(part, ast.Assign)]
                    for alias in node.names:
                        self.assertIn(alias.name, defined, name)
                        self.assertIsNone(alias.asname, name)

    def test_expressions(self):
        for name, text in self.texts.items():
            for node in ast.walk(ast.parse(text)):
                self.assertNotIsInstance(node, (ast.GeneratorExp, ast.Div, ast.Set, ast.AsyncFor), name)
                if isinstance(node, ast.Constant):
                    self.assertNotIsInstance(node.value, float, name)
                if isinstance(node, ast.Compare):
                    for sign, side in zip(node.ops, node.comparators):
                        if isinstance(sign, (ast.Is, ast.IsNot)):
                            self.assertIn(ast.dump(side), [ast.dump(ast.Constant(one)) for one in (None, True, False)])


if __name__ == "__main__":
    unittest.main()
