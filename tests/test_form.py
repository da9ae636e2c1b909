"""The part of Python that the package keeps to, as far as tests/form.py sees it."""

import ast
import pathlib
import re
import unittest

from form import found_in, methods_of, values_of

FOLDER = pathlib.Path(__file__).resolve().parent.parent / "mixplay"

WRONG = {
    "L2": ("import math", "from math import gcd", "from .errors import NoTable", "from mixplay.errors import *"),
    "L3": ("len([])", "if True:\n    kept = 1", "kept = len([])"),
    "L4": ("def told(*given):\n    return given", "def told(given=[]):\n    return given"),
    "L5": ("class Kept:\n    many = 1", "class Kept:\n    '''Words.'''", "class Kept:\n    def __add__(self):\n        pass"),
    "L6": (
        "def told():\n    with 1:\n        pass", "def told():\n    one = other = 1", "def told():\n    one, other = 1, 2",
        "def told():\n    for one in []:\n        pass\n    else:\n        pass", "def told():\n    '''Words.'''",
        "def told():\n    assert 1", "def told():\n    try:\n        pass\n    except:\n        pass",
    ),
    "L7": (
        "half = 0.5", "def told(one):\n    return one / 2", "def told(one):\n    return {x: 1 for x in one}",
        "def told(one):\n    return [x for y in one for x in y]", "def told(one):\n    return sum(x for x in one)",
        "def told(one):\n    return [*one]", "def told(one):\n    return (two := one)",
    ),
    "L8": ("def told(one):\n    return hash(one)", "def told():\n    print(1)"),
    "L10": ("def told():\n" + "    pass\n" * 40, "# " + "x" * 120, "\n" * 401),
    "L12": ("def hidden():\n    _x = 1", "def _told():\n    pass"),
    "L14": ("# a tab:\t", "# \u00e4"),
    "L15": (
        "one = 1\none = 2", "kept = [[1]]", "def told(sum):\n    pass", "def told():\n    class Kept:\n        pass",
        "from mixplay.ratios import plus\n\n\ndef told(plus):\n    pass",
    ),
    "L17": ("# the type of it", "def told(one):\n    one.mro = 1", "def register():\n    pass"),
    "L18": ("class Kept:\n    def told(self):\n        pass\n\n    def told(self):\n        pass",),
    "L19": ("def told():\n    raise ValueError", "def told():\n    try:\n        pass\n    except TypeError:\n        pass"),
    "L20": ("def told(one, other):\n    return one is other",),
    "L21": ("def told(one: int):\n    pass", "def told() -> int:\n    pass"),
    "L22": ("def told():\n    return len",),
    "L23": ("def told(one):\n    kept = range(one)", "def told(one):\n    kept = one.items()"),
    "L24": ("def told(one):\n    kept = set(one)",),
    "L25": ("def told(one):\n    one.sort()", "def told(one):\n    return one.append"),
    "L27": ("def told(one):\n    return 2 ** one", "def told():\n    return '50 %'"),
}

RIGHT = """\"\"\"Words.\"\"\"

from mixplay.errors import NoChoice

MOST = 6
NAMES = ("one", "two")


class Kept:
    def __init__(self, sizes):
        self.many = list(sizes)

    def told(self, at=0):
        if at >= len(self.many) or at < -1:
            raise NoChoice(0, at)
        return [size + 1 for size in self.many if size is not None]


def walked(table, order=None):
    found = {}
    for at, (name, size) in enumerate(zip(NAMES, sorted(table.told(), reverse=True))):
        found[name] = size ** 2 if at in (0, 1) else max([size], key=abs)
        found[name] += 1
    return [name for name, size in found.items()], sum(found.values()), isinstance(order, (int, str))
"""


def texts():
    return {path.name: path.read_text(encoding="utf-8") for path in sorted(FOLDER.glob("*.py"))}


class Form(unittest.TestCase):
    def test_files(self):
        self.assertIn("__init__.py", texts())
        for path in FOLDER.iterdir():
            if path.name not in ("__pycache__", "__init__.py", "__main__.py"):
                self.assertRegex(path.name, r"^[a-z][a-z0-9_]*\.py$")
                self.assertNotRegex(path.name, r"^(test|tests|testing|test_.*|site|conftest|.*customize)\.py$")

    def test_nothing_outside_of_the_rules(self):
        own_methods = methods_of([ast.parse(text) for text in texts().values()])
        for name, text in texts().items():
            with self.subTest(name):
                self.assertEqual(found_in(text, own_methods), [])

    def test_no_name_is_a_method_and_a_value(self):
        trees = [ast.parse(text) for text in texts().values()]
        self.assertEqual(methods_of(trees) & values_of(trees), set())

    def test_imports_name_what_their_file_defines_and_never_go_round(self):
        drawn = {}
        for name, text in texts().items():
            drawn[name] = []
            for node in ast.parse(text).body:
                if isinstance(node, ast.ImportFrom):
                    source = node.module.split(".", 1)[1] + ".py"
                    drawn[name].append(source)
                    for alias in node.names:
                        self.assertRegex(texts()[source], rf"(?m)^(def|class) {alias.name}\b|^{alias.name} =")
        while drawn:
            free = [name for name in drawn if not set(drawn[name]) & set(drawn)]
            self.assertNotEqual(free, [], drawn)
            for name in free:
                del drawn[name]

    def test_init_binds_nothing(self):
        self.assertEqual(len(ast.parse(texts()["__init__.py"]).body), 1)


class Finding(unittest.TestCase):
    def test_code_outside_of_a_rule_is_found(self):
        for rule, samples in WRONG.items():
            for sample in samples:
                with self.subTest(rule=rule, sample=sample):
                    self.assertIn(rule, [re.match(r"L\d+", one).group() for one in found_in(sample)])

    def test_code_within_the_rules_is_not(self):
        self.assertEqual(found_in(RIGHT), [])


if __name__ == "__main__":
    unittest.main()
