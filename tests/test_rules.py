"""Holds the files of the package against ../shared/LANGUAGE.md, and the checks themselves against small faults."""

import pathlib
import re
import unittest

from tests.rules import faults

PACKAGE = pathlib.Path(__file__).resolve().parent.parent / "tiespan"

FAULTS = [
    ("L2", "import math\n"),
    ("L2", "from math import gcd\n"),
    ("L2", "from . import ratios\n"),
    ("L2", "from tiespan.b import *\n"),
    ("L2", "ONE = 1\nfrom tiespan.b import two\n"),
    ("L3", "ONE = len('a')\n"),
    ("L3", "ONE, TWO = 1, 2\n"),
    ("L3", "for at in (1, 2):\n    pass\n"),
    ("L4", "def one(a, /, b):\n    return a\n"),
    ("L4", "@other\ndef one(a):\n    return a\n"),
    ("L5", "class One:\n    def __hash__(self):\n        return 1\n"),
    ("L5", "def one(a):\n    return sorted(a)\n"),
    ("L5", "def one(a):\n    return min(a, key=two)\n"),
    ("L5", "def one(a):\n    return any(b for b in a)\n"),
    ("L5", "class One:\n    def __add__(self, other):\n        self.a = 1\n"),
    ("L5", "class One:\n    def __add__(self, other):\n        return two(other)\ndef two(a):\n    a.append(1)\n"),
    ("L5", "class One:\n    def __len__(self):\n        return two([])\ndef two(a):\n    a[0] = 1\n"),
    ("L5", "class One:\n    @property\n    def many(self):\n        a = 0\n        a += self.b\n        return a\n"),
    ("L6", "def one():\n    global a\n"),
    ("L2", "import tiespan.b\n"),
    ("L6", "def one(a):\n    try:\n        a.b = 1\n    finally:\n        a.c()\n"),
    ("L6", "def one(a):\n    try:\n        a.b = 1\n    finally:\n        a.b = -1\n"),
    ("L5", "class One:\n    @classmethod\n    def one(cls):\n        return two(cls)\n"),
    ("L28", "class One:\n    def __len__(self):\n        return self.a\n"),
    ("L28", "class One:\n    def __repr__(self):\n        return self.a\n"),
    ("L28", "class One:\n    def __init__(self):\n        return None\n"),
    ("L7", "def one(a):\n    return a / 2\n"),
    ("L7", "HALF = 0.5\n"),
    ("L8", "def one(a):\n    return map(len, a)\n"),
    ("L8", "def one(a):\n    return a.format(1)\n"),
    ("L10", "# " + "a" * 119 + "\n"),
    ("L10", "def one():\n" + "    pass\n" * 40),
    ("L10", "# a\n" * 400),
    ("L12", "def one(_a):\n    return _a\n"),
    ("L14", "# \u00e9\n"),
    ("L14", "ONE = 1\t\n"),
    ("L15", "def one(id):\n    return id\n"),
    ("L15", "def one():\n    next = 1\n    return next\n"),
    ("L15", "ONE = 1\nONE = 2\n"),
    ("L15", "from tiespan.b import two\ndef one(two):\n    return two\n"),
    ("L16", "from tiespan.b import three\n"),
    ("L16", "from tiespan.a import one\ndef one():\n    return 1\n"),
    ("L17", "# the type of it\n"),
    ("L17", "# an overloaded word\n"),
    ("L17", "def open():\n    return 1\n"),
    ("L17", "def one(a):\n    return a.law\n"),
    ("L20", "def one(a):\n    return a is 1\n"),
    ("L25", "def one(a):\n    return a.isdisjoint(a)\n"),
    ("L7", "def one(a):\n    return two(*[b for b in a])\n"),
    ("L7", "def one(a):\n    return {**a[0]}\n"),
    ("L18", "class One:\n    def many(self):\n        return 1\nclass Two:\n    def __init__(self):\n        self.many = 1\n"),
    ("L18", "class One:\n    @staticmethod\n    def many():\n        return 1\nclass Two:\n    def many(self):\n        return 1\n"),
    ("L18", "class One:\n    MANY = 1\n    def few(self):\n        self.MANY = 2\n"),
    ("L18", "def one(a):\n    return a.many\n"),
    ("L19", "def one(a):\n    try:\n        return a\n    except Exception:\n        return 1\n"),
    ("L19", "def one(a):\n    try:\n        return a\n    except:\n        return 1\n"),
    ("L19", "def one(a):\n    raise a.wrong()\n"),
    ("L23", "def one(a):\n    yield a\n\ndef three(a):\n    return one(a)\n"),
    ("L23", "class One:\n    def one(self):\n        yield 1\nclass Two:\n    def one(self):\n        return 1\n"),
    ("L23", "def one(a):\n    yield a\n    return a\n"),
    ("L24", "def one(a):\n    return {a, 2}\n"),
    ("L26", "class One:\n    def __init__(self):\n        self.items = 1\n"),
    ("L27", "A = '%'\n"),
    ("L27", "def one(a):\n    return 2 ** a\n"),
]


class RulesTest(unittest.TestCase):
    def test_package_keeps_the_rules(self):
        files = {path.name: path.read_text("utf-8") for path in sorted(PACKAGE.glob("*.py"))}
        self.assertIn("figures.py", files)
        self.assertEqual(faults(files), [])

    def test_folder_contains_nothing_else(self):
        names = [path.name for path in PACKAGE.iterdir() if path.name != "__pycache__"]
        self.assertEqual([name for name in names if not re.fullmatch(r"[a-z_]+\.py", name)], [])
        self.assertIn("__init__.py", names)

    def test_faults_are_found(self):
        for rule, text in FAULTS:
            with self.subTest(text=text):
                found = faults({"a.py": text, "b.py": "def two():\n    return 2\n"})
                self.assertIn((rule, "a.py"), [(one, name) for one, name, line in found])

    def test_plain_text_has_no_fault(self):
        text = '"""A file."""\n\nfrom tiespan.b import two\n\nONE = 1\n\n\ndef three(a=ONE):\n    return two() + a\n'
        self.assertEqual(faults({"a.py": text, "b.py": "def two():\n    return 2\n"}), [])


if __name__ == "__main__":
    unittest.main()
