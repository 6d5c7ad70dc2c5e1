"""The package's files keep to the part of Python that the program is written in."""

import ast
import pathlib
import re
import unittest

from tests.form import code_faults, drawn_faults, drawn_from, in_rings, member_faults, own_methods, text_faults

PACKAGE = pathlib.Path(__file__).resolve().parent.parent / "rinsework"


def package_files():
    return sorted(path for path in PACKAGE.rglob("*") if "__pycache__" not in path.parts)


def texts():
    return {path.stem: path.read_text(encoding="utf-8") for path in package_files()}


class FormTest(unittest.TestCase):
    def test_files(self):
        files = package_files()
        self.assertIn(PACKAGE / "__init__.py", files)
        for path in files:
            self.assertTrue(path.is_file(), path)
            self.assertTrue(re.fullmatch(r"[a-z][a-z0-9_]*\.py|__init__\.py|__main__\.py", path.name), path)
            self.assertNotIn(b"\r", path.read_bytes(), path)

    def test_texts(self):
        for name, text in texts().items():
            self.assertEqual(text_faults(text), [], name)

    def test_code(self):
        trees = {name: ast.parse(text) for name, text in texts().items()}
        methods = own_methods(trees.values())
        for name, tree in trees.items():
            self.assertEqual(code_faults(tree, "rinsework", methods), [], name)

    def test_the_package_as_a_whole(self):
        trees = {name: ast.parse(text) for name, text in texts().items()}
        self.assertEqual(member_faults(trees.values()), [])
        self.assertEqual(drawn_faults(trees, "rinsework"), [])

    def test_no_file_draws_from_itself(self):
        draws = {"rinsework." + name: drawn_from(ast.parse(text)) for name, text in texts().items()}
        self.assertEqual(in_rings(draws), [])


class FaultsAreFoundTest(unittest.TestCase):
    def test_code(self):
        for text in ["import os", "from rinsework.words import *", "from .words import is_name", "x = 1.5", "x = y = 1",
                     "def f(*a):\n    pass", "def f(_a):\n    pass", "def f(id):\n    pass", "f()", "x = 1\nx = 2",
                     "def f(x):\n    return x / 2", "def f(x):\n    assert x", "def f(x):\n    return {y for y in x}",
                     "def f(x):\n    return x.title()", "def f(x):\n    return x is 5", "def f(x):\n    'words'",
                     "def f(x):\n    return 2 ** x", "def f(x):\n    return chr(x)", "class C:\n    x = 1",
                     "def f():\n" + "    pass\n" * 40, "def f(x):\n    return [y for z in x for y in z]",
                     "def f(x):\n    return max(*x)", "x = 'a%'", "def f(x):\n    return type(x)"]:
            self.assertNotEqual(code_faults(ast.parse(text), "rinsework", []), [], text)

    def test_places(self):
        for text in ["def f(x):\n    y = zip(x, x)", "def f(x):\n    return range(x)", "def f(x):\n    return x.items()",
                     "def f(x):\n    return min(range(x), 5)", "def f(x):\n    return set(x)", "def f(x):\n    y = {1, 2}",
                     "def f(x):\n    return [len, x]", "def f(x):\n    return x.append", "def f(x: int):\n    pass",
                     "def f(x):\n    return sorted(x, key=sorted)", "def f(x):\n    return int(x, base=5)",
                     "def f(x):\n    return x.split(maxsplit=1)", "def f(x) -> int:\n    pass",
                     "def f(x):\n    for y in set(x):\n        pass", "def f(x):\n    raise KeyError",
                     "def f(x):\n    try:\n        pass\n    except Exception:\n        pass",
                     "def f(x):\n    try:\n        pass\n    except:\n        pass",
                     "class C:\n    def m(self):\n        pass\n    def m(self):\n        pass",
                     "class C:\n    def __init__(self):\n        return None", "x = [lambda y: 1, lambda y: 2]",
                     "class C:\n    pass\n\n\ndef f(C):\n    pass",
                     "from rinsework.words import is_name\n\n\ndef f(x):\n    is_name = x"]:
            self.assertNotEqual(code_faults(ast.parse(text), "rinsework", ["m"]), [], text)

    def test_lists_and_dicts_of_the_top(self):
        for text in ["X = [[1]]", "X = {1: [2]}", "X = {1: (2, {})}", "X = [1]\n\n\ndef f():\n    return X",
                     "X = {}\n\n\ndef f(y):\n    X[y] = 1", "X = []\n\n\ndef f(y):\n    X.append(y)",
                     "X = []\n\n\ndef f(y):\n    return y(X)", "X = []\n\n\ndef f():\n    y = X\n    return y"]:
            self.assertNotEqual(code_faults(ast.parse(text), "rinsework", []), [], text)
        for text in ["X = {1: (2, ())}\n\n\ndef f(y):\n    return y in X and X[y]",
                     "X = [1]\n\n\ndef f():\n    return list(X)", "X = {}\n\n\ndef f(y):\n    return X.get(y)"]:
            self.assertEqual(code_faults(ast.parse(text), "rinsework", []), [], text)

    def test_places_that_are_free(self):
        for text in ["def f(x):\n    return list(zip(x, range(5)))", "def f(x):\n    return sorted(set(x) | set(x))",
                     "def f(x):\n    return max([y for y in range(x)], default=None)", "def f(x):\n    return x in {1, 2}",
                     "def f(x):\n    return ' '.join(x.keys())", "def f(x):\n    return sorted(x.items(), key=len)",
                     "def f(x):\n    return isinstance(x, (int, str))", "def f(x):\n    return min(x.values())"]:
            self.assertEqual(code_faults(ast.parse(text), "rinsework", []), [], text)

    def test_members(self):
        for text in ["class C:\n    def m(self):\n        self.m = 1", "class C:\n    def encode(self):\n        pass",
                     "class C:\n    def m(self):\n        self.items = 1"]:
            self.assertNotEqual(member_faults([ast.parse(text)]), [], text)
        self.assertEqual(member_faults([ast.parse("class C:\n    def put(self):\n        self.count = 1")]), [])

    def test_texts(self):
        for text in ["x" * 121, "a\tb", "# a type", "\u00e4", "x\n" * 401]:
            self.assertNotEqual(text_faults(text), [], text[:20])
        self.assertEqual(text_faults("# kinds\n" * 400), [])

    def test_rings(self):
        self.assertEqual(in_rings({"a": ["b"], "b": ["c"], "c": ["b"], "d": []}), ["a", "b", "c"])


if __name__ == "__main__":
    unittest.main()
