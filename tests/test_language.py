"""The files of the package keep the rules of LANGUAGE.md, as far as language.py can see them."""

import ast
import re
import sys
import unittest
from pathlib import Path

from tests.language import faults_of

FOLDER = Path(__file__).resolve().parent.parent / "rightchance"
FILES = sorted(FOLDER.rglob("*.py"))


def module_name(path):
    parts = list(path.relative_to(FOLDER.parent).with_suffix("").parts)
    return ".".join(parts[:-1] if parts[-1] == "__init__" else parts)


def imports_of(path):
    """Pairs of a module of the package and a name that the file imports from it."""
    found = []
    for node in ast.walk(ast.parse(path.read_text(encoding="utf-8"))):
        if isinstance(node, ast.ImportFrom) and (node.module or "").startswith("rightchance"):
            found.extend((node.module, alias.name) for alias in node.names)
    return found


def names_of(path):
    """The names that a file itself defines."""
    found = []
    for node in ast.parse(path.read_text(encoding="utf-8")).body:
        if isinstance(node, (ast.FunctionDef, ast.ClassDef)):
            found.append(node.name)
        elif isinstance(node, ast.Assign):
            found.extend(target.id for target in node.targets if isinstance(target, ast.Name))
    return found


class TestFiles(unittest.TestCase):
    def test_each_file_keeps_the_rules(self):
        self.assertGreater(len(FILES), 4)
        for path in FILES:
            with self.subTest(path.name):
                self.assertEqual(faults_of(path.read_text(encoding="utf-8")), [])

    def test_the_folder_holds_plainly_named_files_only(self):
        self.assertLessEqual(len(FILES), 100)
        self.assertNotIn("rightchance", sys.stdlib_module_names)
        for path in FOLDER.rglob("*"):
            if "__pycache__" not in path.parts:
                with self.subTest(path.name):
                    self.assertTrue(path.is_dir() or path.suffix == ".py")
                    self.assertTrue(re.fullmatch("[a-z][a-z0-9_]*|__init__|__main__", path.stem))
        self.assertTrue((FOLDER / "__init__.py").is_file())


class TestImports(unittest.TestCase):
    paths = {module_name(path): path for path in FILES}

    def test_each_name_comes_from_the_file_that_defines_it(self):
        for module, path in self.paths.items():
            for source, name in imports_of(path):
                with self.subTest(module, source=source, name=name):
                    self.assertIn(name, names_of(self.paths[source]))

    def test_no_two_files_import_from_each_other(self):
        def reached(module, seen):
            for source, _ in imports_of(self.paths[module]):
                if source not in seen:
                    seen.add(source)
                    reached(source, seen)
            return seen

        for module in self.paths:
            self.assertNotIn(module, reached(module, set()))


SAMPLES = (
    ("L2", "import math\n"),
    ("L2", "from random import choice\n"),
    ("L2", "from math import floor\n"),
    ("L2", "from .shares import plus\n"),
    ("L2", "from rightchance.shares import *\n"),
    ("L2", "A = 1\nfrom math import gcd\n"),
    ("L3", "A, B = 1, 2\n"),
    ("L3", "A = list()\n"),
    ("L3", "if 1:\n    A = 1\n"),
    ("L4", "def f(a=[]):\n    return a\n"),
    ("L4", "def g(k):\n    return k\n\n\n@g\ndef f(a):\n    return a\n"),
    ("L5", "def g(k):\n    return k\n\n\n@g\nclass F:\n    pass\n"),
    ("L6/L7", "async def f():\n    pass\n"),
    ("L6/L7", "def f(a):\n    return a / 2\n"),
    ("L7", "def f(a):\n    return a + 0.5\n"),
    ("L7", "def f(a):\n    b = (x for x in a)\n    return b\n"),
    ("L8", "def f(a):\n    return hash(a)\n"),
    ("L8", "def f(a):\n    print(a)\n"),
    ("L10", "def f(a):\n" + "    a += 1\n" * 40),
    ("L10", "A = 1\n" + "\n" * 399),
    ("L10", "A = \"" + "a" * 120 + "\"\n"),
    ("L12", "def __f(a):\n    return a\n"),
    ("L12", "def f(a):\n    _, b = a\n    return _ + b\n"),
    ("L14", "A = \"\u00e9\"\n"),
    ("L15", "def f(hash):\n    return hash\n"),
    ("L15", "A = 1\nA = 2\n"),
    ("L15", "from math import gcd\n\n\ndef f(gcd):\n    return gcd\n"),
    ("L17", "def f(register):\n    return register\n"),
    ("L17", "A = \"an enum\"\n"),
    ("L19", "def f(a):\n    try:\n        return a[0]\n    except:\n        return 1\n"),
    ("L19", "def f(a):\n    try:\n        return a[0]\n    except TypeError:\n        return 1\n"),
    ("L19", "def f(a):\n    raise a\n"),
    ("L20", "def f(a, b):\n    return a is b\n"),
    ("L24", "def f(a):\n    for k in set(a):\n        return k\n"),
    ("L24", "def f(a):\n    return {k for k in a}\n"),
    ("L25", "def f(a):\n    return a.isdisjoint(a)\n"),
    ("L27", "A = \"50%\"\n"),
    ("L27", "def f(a):\n    return a ** 65\n"),
    ("L27", "def f(a):\n    return a is 1\n"),
)


class TestTheCheckItself(unittest.TestCase):
    def test_it_sees_what_breaks_a_rule(self):
        for rule, text in SAMPLES:
            with self.subTest(rule, text=text):
                self.assertIn(rule, [fault[0] for fault in faults_of(text)])

    def test_it_lets_good_files_pass(self):
        text = (
            '"""A file."""\n\nfrom math import gcd\n\nA = (1, -2)\n\n\n'
            "def f(a, b=A):\n    seen = set()\n    for k, x in enumerate(a):\n        seen.add(gcd(k, x))\n"
            '    if b is None:\n        raise ValueError("none")\n    return sorted(seen) + [k for k in b]\n'
        )
        self.assertEqual(faults_of(text), [])


if __name__ == "__main__":
    unittest.main()
