import ast
import pathlib
import unittest

import language

PACKAGE = pathlib.Path(__file__).resolve().parent.parent / "knotless"

OUTSIDE = [
    ("L2", "import sys\n"),
    ("L2", "from knotless.errors import *\n"),
    ("L2", "from .errors import BadTown\n"),
    ("L2", "def f():\n    from knotless.errors import BadTown\n"),
    ("L3", "print\n"),
    ("L3", "NAMES = list(range(3))\n"),
    ("L4", "def f(*args):\n    return args\n"),
    ("L5", "class A:\n    kept = 1\n"),
    ("L5", "class A(object):\n    pass\n"),
    ("L6", "def f(x):\n    assert x\n"),
    ("L6", "def f():\n    a = b = 1\n"),
    ("L6", "def f(x):\n    with x:\n        pass\n"),
    ("L6", "def f(x):\n    for y in x:\n        pass\n    else:\n        pass\n"),
    ("L7", "def f(x):\n    return x / 2\n"),
    ("L7", "def f(x):\n    return {y: 1 for y in x}\n"),
    ("L7", "def f(x):\n    return any(y for y in x)\n"),
    ("L7", "def f():\n    return 1.5\n"),
    ("L7", "def f(x):\n    return f'{x + 1}'\n"),
    ("L8", "def f(x):\n    return hash(x)\n"),
    ("L10", "# " + "x" * 120 + "\n"),
    ("L10", "def f():\n" + "    pass\n" * 40),
    ("L12", "def f(x):\n    _y = x\n"),
    ("L14", "# a\ttab\n"),
    ("L15", "A = 1\nA = 2\n"),
    ("L15", "def f(min):\n    return 1\n"),
    ("L15", "from knotless.errors import BadTown\ndef f(BadTown):\n    return 1\n"),
    ("L15", "class A:\n    pass\ndef f():\n    A = 1\n"),
    ("L15", "KEPT = {1: [2]}\n"),
    ("L15", "KEPT = {}\ndef f():\n    KEPT[1] = 2\n"),
    ("L15", "KEPT = []\ndef f():\n    KEPT.append(2)\n"),
    ("L15", "KEPT = []\ndef f():\n    return KEPT\n"),
    ("L17", "# of one type\n"),
    ("L19", "def f(x):\n    raise x\n"),
    ("L20", "def f(x, y):\n    return x is y\n"),
    ("L21", "def f(x: int):\n    return x\n"),
    ("L22", "def f(x):\n    return x.split(sep=';')\n"),
    ("L22", "def f(x):\n    return int(x, base=2)\n"),
    ("L23", "def f(x):\n    y = zip(x, x)\n    return list(y)\n"),
    ("L24", "def f(x):\n    y = set(x)\n    return 1 in y\n"),
    ("L24", "def f(x):\n    return [y for y in set(x)]\n"),
    ("L24", "def f(x):\n    return {1, 2} - set(x)\n"),
    ("L24", "def f(x):\n    return set(x) <= set(x)\n"),
    ("L24", "def f(x):\n    return sorted(set(x), reverse=True)\n"),
    ("L27", "def f(n):\n    return 2 ** n\n"),
    ("L28", "class A:\n    def __init__(self):\n        return None\n"),
]


def texts():
    return {path.stem: path.read_text(encoding="utf-8") for path in sorted(PACKAGE.glob("*.py"))}


def trees():
    return {"knotless." + stem: ast.parse(text) for stem, text in texts().items()}


class Language(unittest.TestCase):
    def test_nothing_but_plain_files_lies_in_the_package(self):
        for path in PACKAGE.iterdir():
            if path.name != "__pycache__":
                self.assertTrue(path.is_file(), path.name)
                self.assertIsNotNone(language.FILE_NAME.fullmatch(path.name), path.name)
        self.assertIn("__init__", texts())

    def test_each_file_keeps_to_the_rules(self):
        for stem, text in texts().items():
            with self.subTest(stem):
                self.assertEqual(language.faults_of_file("knotless", text), [])

    def test_files_draw_from_one_another_one_way(self):
        self.assertEqual(language.faults_of_drawing(trees()), [])

    def test_methods_and_values_of_the_whole_package(self):
        self.assertEqual(language.faults_of_methods(trees()), [])


class Checker(unittest.TestCase):
    """What lies outside is found: a check that finds nothing would let everything pass."""

    def test_each_sample_is_found_under_its_rule(self):
        for rule, text in OUTSIDE:
            with self.subTest(rule=rule, text=text):
                self.assertIn(rule, [found for found, row in language.faults_of_file("knotless", text)])

    def test_sets_that_are_asked_on_the_spot_are_let_pass(self):
        for asked in ("1 in set(x)", "set(x) == set(x)", "sorted(set(x))", "len(set(x) - {1, 2} | set(x))"):
            with self.subTest(asked):
                self.assertEqual(language.faults_of_file("knotless", f"def f(x):\n    return {asked}\n"), [])

    def test_a_dict_of_the_top_that_is_only_read_is_let_pass(self):
        text = "def f(x):\n    return x\nKEPT = {1: (2, f)}\ndef g(x):\n    return KEPT[x][1](x) if x in KEPT else 0\n"
        self.assertEqual(language.faults_of_file("knotless", text), [])

    def test_drawing_in_a_ring_is_found(self):
        ring = {
            "knotless.a": ast.parse("from knotless.b import g\ndef f():\n    return g()\n"),
            "knotless.b": ast.parse("from knotless.a import f\ndef g():\n    return f()\n"),
        }
        self.assertEqual(language.faults_of_drawing(ring), [("L16", "knotless.a"), ("L16", "knotless.b")])

    def test_a_method_that_is_a_value_too_and_a_foreign_method_are_found(self):
        text = "class A:\n    def kept(self):\n        self.kept = [].sort()\n"
        self.assertEqual(language.faults_of_methods({"a": ast.parse(text)}), [("L18", "kept"), ("L25", "sort")])

    def test_methods_and_values_that_bear_a_name_of_pythons_own_are_found(self):
        text = "class A:\n    def union(self, b):\n        b.real = b.count = 1\n        b.items = self.get(1)\n"
        self.assertEqual(language.faults_of_methods({"a": ast.parse(text)}),
                         [("L26", "items"), ("L26", "real"), ("L26", "union")])


if __name__ == "__main__":
    unittest.main()
