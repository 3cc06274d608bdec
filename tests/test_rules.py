"""The package keeps to the rules of LANGUAGE.md that a script can look for."""

import pathlib
import unittest

import rules

FOLDER = pathlib.Path(__file__).resolve().parent.parent / "sherdhall"
FILES = {path.name: path for path in FOLDER.iterdir() if path.name != "__pycache__"}

WRONG = [
    "import sys\n", "from os import path\n", "from . import field\n", "from sherdhall.field import *\n",
    "from math import sqrt\n", "def f():\n    pass\nfrom sherdhall.field import plus\n", "print(1)\n",
    "A = B = 1\n", "for k in (1, 2):\n    pass\n", "def f(x):\n    return x / 2\n", "A = 1.5\n",
    "def f(xs):\n    return sum(x for x in xs)\n", "def f(x):\n    return x is x\n", "A = 'a % b'\n",
    "def f():\n    global A\n", "async def f():\n    pass\n", "@f\ndef g():\n    pass\n", "def f(x=[]):\n    pass\n",
    "def f(len):\n    pass\n", "def f():\n    id = 1\n", "def f(x):\n    try:\n        x()\n    except:\n        pass\n",
    "def f(x):\n    return x ** x\n", "def f(x):\n    return eval(x)\n", "def f():\n    raise x\n",
    "class A:\n    def f(self):\n        pass\n\n    def f(self):\n        pass\n", "class A:\n    def __hash__(self):\n"
    "        pass\n", "from sherdhall.field import plus\ndef f(plus):\n    pass\n", "def f():\n\treturn 1\n",
    "A = 'caf\u00e9'\n", "A = '" + "a" * 130 + "'\n", "A = 1\n" + "\n" * 400,
    "def f():\n" + "    pass\n" * 40, "def f():\n    return print(1)\n", "A = 'namedtuple'\n",
    "def f(xs):\n    return max(xs, by=1)\n", "def f(x):\n    try:\n        x()\n    except TypeError:\n        pass\n",
]


class Rules(unittest.TestCase):

    def test_one_folder_of_files_alone(self):
        self.assertIn("__init__.py", FILES)
        self.assertTrue(len(FILES) <= 100)
        for name, path in FILES.items():
            self.assertTrue(path.is_file() and rules.right_name(name), name)

    def test_no_file_breaks_a_rule(self):
        for name, path in FILES.items():
            with self.subTest(name=name):
                self.assertEqual(rules.breaches(name, path.read_text(encoding="utf-8")), [])

    def test_no_methods_of_other_values_are_called(self):
        texts = [path.read_text(encoding="utf-8") for path in FILES.values()]
        self.assertEqual(rules.foreign_methods(texts), [])

    def test_no_files_import_from_each_other(self):
        texts = {name: path.read_text(encoding="utf-8") for name, path in FILES.items()}
        self.assertEqual(rules.in_circles(texts), [])

    def test_no_tests_stand_inside(self):
        for path in FOLDER.rglob("*"):
            self.assertFalse(path.name.startswith("test"), path.name)


class TheLookingItself(unittest.TestCase):

    def test_what_is_wrong_is_found(self):
        for text in WRONG:
            with self.subTest(text=text[:60]):
                self.assertNotEqual(rules.breaches("some.py", text), [])

    def test_what_is_right_is_let_by(self):
        text = '"""Some."""\n\nfrom sherdhall.field import plus\n\nA = 2\n\n\ndef f(x, *, by=A):\n    return plus(x, by) % 5\n'
        self.assertEqual(rules.breaches("some.py", text), [])

    def test_names_of_files(self):
        for name in ("test_some.py", "Some.py", "some.txt", "len.py", "math.py", "site.py", "so me.py"):
            self.assertFalse(rules.right_name(name), name)

    def test_circles_and_methods(self):
        one = "from sherdhall.b import f\n"
        other = "from sherdhall.a import g\n"
        self.assertEqual(rules.in_circles({"a.py": one, "b.py": other, "c.py": one}), ["a.py", "b.py", "c.py"])
        self.assertEqual(rules.in_circles({"a.py": one, "b.py": "A = 1\n"}), [])
        self.assertEqual(rules.foreign_methods(["def f(x):\n    return x.union(1)\n"]), ["union"])


if __name__ == "__main__":
    unittest.main()
