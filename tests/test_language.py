"""The files of the package keep the rules of LANGUAGE.md that a script can see, and the script sees breaks."""

import os
import tempfile
import unittest

from tests.language import broken_rules

PACKAGE = os.path.join(os.path.dirname(os.path.dirname(os.path.abspath(__file__))), "fallsunder")
WALKER = "class A:\n    def g(self):\n        for k in self.rows:\n            yield k\n\n"
# what is written so keeps the rule
KEPT = [
    ("L23", WALKER + "    def f(self):\n        out = []\n        for k in self.g():\n            out.append(k)\n"
            "        self.sums.extend(out)\n"),
    ("L23", WALKER + "    def f(self):\n        rows = list(self.g())\n        for k in rows:\n"
            "            self.sums.append(k)\n"),
    ("L23", "def g(x):\n    for k in x:\n        yield k\n\n\n"
            "def f(x):\n    rows = list(g(x))\n    for k in rows:\n        x.append(k)\n"),
]
BREAKS = [
    ("L2", "import os\n"),
    ("L2", "from os import path\nA = path\n"),
    ("L3", "print(1)\n"),
    ("L3", "A = [k for k in (1, 2)]\n"),
    ("L6", "def f(x):\n    global y\n    y = x\n"),
    ("L7", "def f(x):\n    return x / 2\n"),
    ("L7", "def f(x):\n    return any(k for k in x)\n"),
    ("L8", "def f(x):\n    return hash(x)\n"),
    ("L10", "def f(x):\n" + "    x = 1\n" * 40),
    ("L10", "A = 1" + " " * 120 + "\n"),
    ("L12", "A = 1\n_wall_b = 2\n"),
    ("L14", "A = '\u00e4'\n"),
    ("L15", "def f(x):\n    id = x\n    return id\n"),
    ("L17", "def f(x):\n    return x.open\n"),
    ("L18", "class A:\n    pass\n\n\ndef f(x):\n    return [A]\n"),
    ("L19", "def f(x):\n    try:\n        return x[0]\n    except Exception:\n        return 1\n"),
    ("L20", "def f(x, y):\n    return x is y\n"),
    ("L23", "def f(x):\n    return zip(x, x)\n"),
    ("L23", "def f(x):\n    for k in x:\n        x.append(k)\n"),
    ("L23", "class A:\n    def f(self):\n        for k in self.rows:\n            self.sums[k].append(k)\n"),
    ("L23", "class A:\n    def f(self):\n        for k, v in self.rows.items():\n            self.sums[k][v] = k\n"),
    ("L23", "class A:\n    def f(self):\n        one = self.sums[0]\n        for k in self.rows:\n"
            "            one.append(k)\n"),
    ("L23", WALKER + "    def f(self):\n        for k in self.g():\n            self.sums.append(k)\n"),
    ("L23", WALKER + "    def f(self):\n        for k in self.g():\n            self.many = k\n"),
    ("L23", WALKER + "    def f(self, x):\n        for k in list(self.g()):\n            x.rows[k] = k\n"),
    ("L23", WALKER + "    def h(self, k):\n        self.sums.append(k)\n\n    def i(self, k):\n        self.h(k)\n\n"
            "    def f(self):\n        for k in self.g():\n            self.i(k)\n"),
    ("L23", WALKER + "    def f(self):\n        sums = self.sums\n        for k in self.g():\n"
            "            sums.append(k)\n"),
    ("L23", WALKER + "    def f(self):\n        return [self.sums.pop() for k in self.g()]\n"),
    ("L23", "def g(x):\n    for k in x:\n        yield k\n\n\ndef f(x):\n    for k in g(x):\n        x.append(k)\n"),
    ("L23", "def g(x):\n    for k in x:\n        yield k\n\n\n"
            "def f(x):\n    for n, k in enumerate(g(x)):\n        x[n] = k\n"),
    ("L24", "def f(x):\n    return set(x)\n"),
    ("L25", "def f(x):\n    return x.encode()\n"),
    ("L27", "def f(x):\n    return 2 ** x\n"),
    ("L18", "def f(x):\n    return x.many\n"),
    ("L22", "def g(x):\n    return x\n\n\ndef f(x):\n    return g(x, x)\n"),
    ("L23", "def g(x):\n    yield x\n\n\ndef f(x):\n    return g(x)\n"),
    ("L16", "from falls.a import f\n\n\ndef f(x):\n    return x\n"),
    ("L28", "class A:\n    def __init__(self):\n        return self\n"),
    ("L26", "class A:\n    def __init__(self):\n        self.items = 1\n"),
    ("L24", "def f(x):\n    for k in {x, 1}:\n        return k\n"),
    ("L1", "A = 1\n", "Big.py"),
    ("L14", "A = 1\n", "typing.py"),
    ("L5", "class A:\n    def __hash__(self):\n        return 1\n"),
    ("L5", "class A:\n    def __add__(self, other):\n        self.a = other\n        return self\n"),
    ("L5", "def f(x):\n    y = x[1:]\n    y.append(1)\n    return y\n\n\nclass A:\n"
           "    def __add__(self, other):\n        return f(other)\n"),
]


def rules_broken_by(text, name="a.py"):
    """The rules that a package of one file with this text breaks."""
    with tempfile.TemporaryDirectory() as top:
        folder = os.path.join(top, "falls")
        os.mkdir(folder)
        with open(os.path.join(folder, name), "w", encoding="utf-8") as file:
            file.write(text)
        return [line.split(" ")[0] for line in broken_rules(folder)]


class LanguageTest(unittest.TestCase):
    def test_package_keeps_the_rules(self):
        self.assertEqual(broken_rules(PACKAGE), [])

    def test_breaks_are_seen(self):
        for rule, text, *names in BREAKS:
            with self.subTest(rule=rule, text=text):
                self.assertIn(rule, rules_broken_by(text, *names))

    def test_kept_forms_pass(self):
        for rule, text in KEPT:
            with self.subTest(rule=rule, text=text):
                self.assertNotIn(rule, rules_broken_by(text))

    def test_no_warnings_when_compiled(self):
        import warnings
        for name in sorted(os.listdir(PACKAGE)):
            if name.endswith(".py"):
                with open(os.path.join(PACKAGE, name), encoding="utf-8") as file, warnings.catch_warnings():
                    warnings.simplefilter("error")
                    compile(file.read(), name, "exec")


if __name__ == "__main__":
    unittest.main()
