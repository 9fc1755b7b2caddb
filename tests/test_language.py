"""The package keeps to the rules of LANGUAGE.md that a test can see."""

import pathlib
import unittest

from language_rules import PACKAGE, faults_of, needless_of

FOLDER = pathlib.Path(__file__).resolve().parent.parent / PACKAGE


def package_files():
    """The texts of the package's files; what Python compiled by itself is no file of its own."""
    paths = [path for path in sorted(FOLDER.rglob("*")) if path.is_file() and "__pycache__" not in path.parts]
    return {path.relative_to(FOLDER).as_posix(): path.read_bytes().decode("utf-8") for path in paths}


def def_of(rows):
    return "def f(x):\n" + "    x = x\n" * (rows - 1)


# What each file does wrong, and the rule that is told.
WRONG_FILES = (
    ("L1", "notes.txt", ""),
    ("L14", "Upper.py", ""),
    ("L14", "two-words.py", ""),
    ("L14", "test_x.py", ""),
    ("L14", "tests.py", ""),
    ("L14", "enum.py", ""),
    ("L14", "filter.py", ""),
    ("L14", "folder/x.py", ""),
    ("L14", "folder/__main__.py", ""),
)

WRONG_TEXTS = (
    ("L2", "from . import things\n"),
    ("L2", "from benchdeal.things import *\n"),
    ("L2", "from random import random\n"),
    ("L2", "from benchdeal.__main__ import main\n"),
    ("L2", "def f():\n    from benchdeal.things import are_votes\n"),
    ("L16", "import math\n"),
    ("L16", "import sys\n"),
    ("L3", "print(1)\n"),
    ("L3", "A = len(\"ab\")\n"),
    ("L3", "for k in (1, 2):\n    pass\n"),
    ("L15", "A = 1\nA = 2\n"),
    ("L15", "def f(min):\n    return min\n"),
    ("L15", "def f():\n    class A:\n        pass\n"),
    ("L15", "from benchdeal.things import are_votes\n\n\ndef f(are_votes):\n    return are_votes\n"),
    ("L15", "from benchdeal.things import are_votes\n\n\ndef f(x):\n    are_votes = x\n    return are_votes\n"),
    ("L15", "class A:\n    pass\n\n\ndef f(A):\n    return A\n"),
    ("L4", "def f(*xs):\n    return xs\n"),
    ("L4", "def f(**xs):\n    return xs\n"),
    ("L4", "def f(x, *, y):\n    return x\n"),
    ("L4", "def g(x):\n    return x\n\n\n@g\ndef f(x):\n    return x\n"),
    ("L5", "class A:\n    x = 1\n"),
    ("L6", "def f(x):\n    with x:\n        pass\n"),
    ("L6", "def f(x):\n    assert x\n"),
    ("L6", "def f(x):\n    y = z = x\n    return y\n"),
    ("L6", "def f(x):\n    while x:\n        pass\n    else:\n        pass\n"),
    ("L6", "def f(x):\n    yield x\n"),
    ("L7", "def f(x):\n    return x / 2\n"),
    ("L7", "def f(x):\n    return 1.5\n"),
    ("L7", "def f(x):\n    return all(y for y in x)\n"),
    ("L7", "def f(x):\n    return {y: y for y in x}\n"),
    ("L7", "def f(x):\n    return [z for y in x for z in y]\n"),
    ("L7", "def f(x):\n    return f\"{x + 1}\"\n"),
    ("L7", "def f(x):\n    return (y := x)\n"),
    ("L8", "def f(x):\n    return round(x)\n"),
    ("L8", "def f(x):\n    return print(x)\n"),
    ("L10", def_of(41)),
    ("L10", "# " + "x" * 119 + "\n"),
    ("L10", "# x\n" * 401),
    ("L12", "def _f(x):\n    return x\n"),
    ("L12", "def f(xs):\n    return [1 for _ in xs]\n"),
    ("L14", "# caf\u00e9\n"),
    ("L14", "def f(x):\n\treturn x\n"),
    ("L14", "A = 1\r\n"),
    ("L17", "# the type of it\n"),
    ("L17", "def f(x):\n    return x.register\n"),
    ("L17", "def f(x):\n    return getattr(x, \"y\")\n"),
    ("L19", "def f(x):\n    try:\n        return x\n    except Exception:\n        return 1\n"),
    ("L20", "def f(x):\n    return x is f\n"),
    ("L20", "def f(x):\n    return x is 1\n"),
    ("L21", "def f(x: int):\n    return x\n"),
    ("L22", "def f(x):\n    y = len\n    return y(x)\n"),
    ("L22", "def f(x):\n    return [int, str]\n"),
    ("L22", "def f(x):\n    return sorted(x, key=repr)\n"),
    ("L22", "def f(x):\n    return sorted(x, reverse=x)\n"),
    ("L22", "def f(x):\n    return int(x, base=2)\n"),
    ("L22", "def f(x):\n    return x.split(sep=x)\n"),
    ("L23", "def f(x):\n    y = range(x)\n    return y\n"),
    ("L23", "def f(x):\n    return 1 in range(x)\n"),
    ("L23", "def f(x):\n    return min(range(x), 1)\n"),
    ("L23", "def f(x):\n    return x.items()\n"),
    ("L23", "def f(xs):\n    for x in xs:\n        xs.append(x)\n"),
    ("L23", "def f(xs):\n    for k, x in enumerate(xs):\n        xs[k] = 1\n"),
    ("L23", "def f(d):\n    for k, x in d.items():\n        d[k] += 1\n"),
    ("L23", "def f(xs):\n    for x in xs:\n        xs += [x]\n"),
    ("L25", "def f(x):\n    return x.sort()\n"),
    ("L27", "A = \"5 %\"\n"),
)

# What a package could do without, and what its rules are.
NEEDLESS_TEXTS = (
    ("L4", "def f(x):\n    def g(y):\n        return y\n    return g(x)\n"),
    ("L5", "class A:\n    pass\n"),
    ("L11", "def f(x):\n    return f(x - 1) if x else 0\n"),
    ("L11", "def f(x):\n    return g(x)\n\n\ndef g(x):\n    return f(x)\n"),
    ("L13", "def f(x):\n    return sorted(x, key=lambda y: y)\n"),
    ("L15", "A = [1]\n"),
    ("L15", "A = ({1: 2}, 3)\n"),
    ("L19", "def f(x):\n    raise ValueError(x)\n"),
    ("L19", "def f(x):\n    try:\n        return int(x)\n    except ValueError:\n        return 0\n"),
    ("L24", "def f(x):\n    return x in {1, 2}\n"),
    ("L24", "def f(x):\n    return set(x)\n"),
)

RIGHT_TEXTS = (
    "",
    "\"\"\"A docstring.\"\"\"\n",
    "from benchdeal.things import are_votes\n\nA = -1\nB = (1, \"b\", None)\n",
    def_of(40),
    "#" + "x" * 119 + "\n",
    "# x\n" * 400,
    "def f(x):\n    return [y for y in x if y is not None]\n",
    "def f(x):\n    return f\"{x} {x!r}\"\n",
    "def f(x):\n    return isinstance(x, int) or isinstance(x, (str, tuple))\n",
    "def f(x):\n    return sorted(x, key=len, reverse=True)\n",
    "def f(x):\n    return tuple([y for y in range(x)]) + tuple(range(x))\n",
    "def f(x):\n    y = []\n    for k in range(x):\n        y.append(k)\n    return min(range(x))\n",
    "class A:\n    def __init__(self, x):\n        self.x = x\n\n    def twice(self):\n        return 2 * self.x\n",
)


class LanguageTest(unittest.TestCase):
    def assert_told(self, rule, files):
        told = " ".join(faults_of(files)).replace("/L", " L").replace(":", " ").split()
        self.assertIn(rule, told)

    def test_package_keeps_to_the_rules(self):
        self.assertEqual(faults_of(package_files()), [])

    def test_package_has_its_files(self):
        for path in ("__init__.py", "errors.py", "things.py", "dealing.py", "pricing.py", "changing.py"):
            self.assertIn(path, package_files())

    def test_package_does_without_what_it_could(self):
        self.assertEqual(needless_of(package_files()), [])

    def test_needless_texts_are_told(self):
        for rule, text in NEEDLESS_TEXTS:
            with self.subTest(text=text):
                self.assertIn(rule, " ".join(needless_of({"x.py": text})).replace(":", " ").split())

    def test_wrong_files_are_told(self):
        for rule, path, text in WRONG_FILES:
            with self.subTest(path=path):
                self.assert_told(rule, {"__init__.py": "", path: text})

    def test_missing_init_is_told(self):
        self.assert_told("L14", {"x.py": ""})

    def test_wrong_texts_are_told(self):
        for rule, text in WRONG_TEXTS:
            with self.subTest(text=text[:200]):
                self.assert_told(rule, {"__init__.py": "", "x.py": text})

    def test_files_that_draw_from_one_another_are_told(self):
        from_x = "from benchdeal.x import f\n"
        from_y = "from benchdeal.y import f\n"
        from_z = "from benchdeal.z import f\n"
        self.assert_told("L16", {"__init__.py": "", "x.py": from_y, "y.py": from_x})
        self.assert_told("L16", {"__init__.py": "", "x.py": from_y, "y.py": from_z, "z.py": from_x})
        self.assert_told("L16", {"__init__.py": from_x, "x.py": from_y, "y.py": ""})

    def test_right_texts_are_not_told(self):
        for text in RIGHT_TEXTS:
            with self.subTest(text=text[:200]):
                self.assertEqual(faults_of({"__init__.py": "", "x.py": text}), [])


if __name__ == "__main__":
    unittest.main()
