"""The package's files keep to the part of Python that the program is written in."""

import ast
import pathlib
import re
import unittest

from tests.form import code_faults, drawn_from, in_rings, own_methods, text_faults

PACKAGE = pathlib.Path(__file__).resolve().parent.parent / "rinsework"


def package_files():
    return sorted(path for path in PACKAGE.rglob("*") if "__pycache__" not in path.parts)


def texts():
    return {path.stem: path.read_text(encoding="utf-8") for path in package_files()}


class FormTest(unittest.TestCase):
    def test_files(self):
        files = package_files()
        self.assertIn(PACKAGE / "__init__.py", files)
        for path in files:
            self.assertTrue(path.is_file(), path)
            self.assertTrue(re.fullmatch(r"[a-z][a-z0-9_]*\.py|__init__\.py|__main__\.py", path.name), path)
            self.assertNotIn(b"\r", path.read_bytes(), path)

    def test_texts(self):
        for name, text in texts().items():
            self.assertEqual(text_faults(text), [], name)

    def test_code(self):
        trees = {name: ast.parse(text) for name, text in texts().items()}
        methods = own_methods(trees.values())
        for name, tree in trees.items():
            self.assertEqual(code_faults(tree, "rinsework", methods), [], name)

    def test_no_file_draws_from_itself(self):
        draws = {"rinsework." + name: drawn_from(ast.parse(text)) for name, text in texts().items()}
        self.assertEqual(in_rings(draws), [])


class FaultsAreFoundTest(unittest.TestCase):
    def test_code(self):
        for text in ["import os", "from rinsework.words import *", "from .words import is_name", "x = 1.5", "x = y = 1",
                     "def f(*a):\n    pass", "def f(_a):\n    pass", "def f(id):\n    pass", "f()", "x = 1\nx = 2",
                     "def f(x):\n    return x / 2", "def f(x):\n    assert x", "def f(x):\n    return {y for y in x}",
                     "def f(x):\n    return x.title()", "def f(x):\n    return x is 5", "def f(x):\n    'words'",
                     "def f(x):\n    return 2 ** x", "def f(x):\n    return chr(x)", "class C:\n    x = 1",
                     "def f():\n" + "    pass\n" * 40, "def f(x):\n    return [y for z in x for y in z]",
                     "def f(x):\n    return max(*x)", "x = 'a%'", "def f(x):\n    return type(x)"]:
            self.assertNotEqual(code_faults(ast.parse(text), "rinsework", []), [], text)

    def test_texts(self):
        for text in ["x" * 121, "a\tb", "# a type", "\u00e4", "x\n" * 401]:
            self.assertNotEqual(text_faults(text), [], text[:20])
        self.assertEqual(text_faults("# kinds\n" * 400), [])

    def test_rings(self):
        self.assertEqual(in_rings({"a": ["b"], "b": ["c"], "c": ["b"], "d": []}), ["a", "b", "c"])


if __name__ == "__main__":
    unittest.main()
