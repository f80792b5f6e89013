"""The package keeps to its part of Python, and the check of this sees what lies outside."""

import ast
import unittest
from pathlib import Path

from language import drawn_by, faults_of, methods_of, values_of

PACKAGE = Path(__file__).resolve().parent.parent / "stylehouse"

OUTSIDE = (
    ("import sys\n", "L6"),
    ("from os import path\n", "L2"),
    ("from .errors import NoBox\n", "L2"),
    ("from stylehouse.errors import *\n", "L2"),
    ("def f(*some):\n    return some\n", "L4"),
    ("def f(list):\n    return list\n", "L15"),
    ("class A:\n    size = 1\n", "L5"),
    ("def f(a):\n    a, b = a\n    return b\n", "L6"),
    ("def f(a):\n    a = b = 1\n    return b\n", "L6"),
    ("def f(a):\n    with a:\n        pass\n", "L6"),
    ("def f(a):\n    assert a\n", "L6"),
    ("def f(a):\n    a\n", "L6"),
    ("def f(a):\n    for b in a:\n        pass\n    else:\n        pass\n", "L6"),
    ("def f(a):\n    return a / 2\n", "L7"),
    ("def f(a):\n    return 1.5\n", "L7"),
    ("def f(a):\n    return sum(b for b in a)\n", "L7"),
    ("def f(a):\n    return {b: b for b in a}\n", "L7"),
    ("def f(a):\n    return [b for c in a for b in c]\n", "L7"),
    ("def f(a):\n    return f'{a + 1}'\n", "L7"),
    ("def f(a):\n    return list(map(len, a))\n", "L8"),
    ("def f(a):\n    sum = a\n    return sum\n", "L8"),
    ("def f(a):\n    return getattr(a, 'b')\n", "L8"),
    ("def f(a):\n" + "    a = a + 1\n" * 40, "L10"),
    ("WORDS = '" + "a" * 120 + "'\n", "L10"),
    ("def _f(a):\n    return a\n", "L12"),
    ("# caf\u00e9\n", "L14"),
    ("A = 1\nA = 2\n", "L15"),
    ("# of this type\n", "L17"),
    ("def f(a):\n    return a.format(1)\n", "L17"),
    ("def f(a):\n    try:\n        return a\n    except Exception:\n        return 1\n", "L19"),
    ("def f(a, b):\n    return a is b\n", "L20"),
    ("def f(a):\n    a.sort()\n", "L25"),
    ("A = '50%'\n", "L27"),
    ("A = 10 ** 30\n", "L3"),
    ("A = len('a')\n", "L3"),
    ("A = [[1], [2]]\n", "L15"),
    ("A = {'a': {'b': 1}}\n", "L15"),
    ("from stylehouse.errors import NoBox\n\n\ndef f(a):\n    NoBox = a\n    return NoBox\n", "L15"),
    ("from stylehouse.shares import total\n\n\ndef f(total):\n    return total\n", "L15"),
    ("def f(a):\n    for hash in a:\n        pass\n", "L15"),
    ("def f(a):\n    b = zip(a, a)\n    return list(b)\n", "L23"),
    ("def f(a):\n    return a.items()\n", "L23"),
    ("def f(a):\n    return list(reversed(range(a)))\n", "L23"),
    ("def f(a):\n    a.extend(reversed(a))\n", "L23"),
    ("def f(a):\n    for b in a:\n        a.append(b)\n", "L23"),
    ("def f(a):\n    for b in a:\n        a[b] = 1\n", "L23"),
    ("def f(a):\n    for b, c in a.items():\n        a.pop(b)\n", "L23"),
    ("def f(a):\n    return set(a)\n", "L24"),
    ("def f(a):\n    return sorted(a, reversed=True)\n", "L22"),
    ("def f(a):\n    return a.split(' ', maxsplit=1)\n", "L22"),
    ("def f(a):\n    b = len\n    return b(a)\n", "L22"),
    ("class A:\n    def least(self):\n        return self.least\n", "L25"),
    ("class A:\n    pass\n\n\ndef f():\n    return [A]\n", "L18"),
    ("def f(a: int):\n    return a\n", "L21"),
    ("def f(a, b=len(())):\n    return a\n", "L4"),
    ("def f(a):\n    raise a\n", "L19"),
    ("def f(a):\n    return 10 ** a\n", "L27"),
    ("class A:\n    def __init__(self):\n        self.values = 1\n", "L26"),
    ("class A:\n    def __init__(self):\n        return None\n", "L28"),
    ("def f(a):\n    return [lambda b: b, lambda b: a]\n", "L13"),
)

WITHIN = (
    '"""A text."""\n\nfrom stylehouse.errors import NoBox\n\nMOST = 3\n\n\n'
    "class Store:\n    def __init__(self, some):\n        self.some = list(some)\n\n"
    "    def least(self):\n        return min(self.some, default=None)\n\n\n"
    "def f(a, b=None):\n    if b is None:\n        raise NoBox(f'{a}')\n    a[0] = [-c for c in b if c > 0]\n"
    "    a.append(b)\n    return Store(a).least()\n"
)


def sources():
    return {path.stem: path.read_text(encoding="utf-8") for path in sorted(PACKAGE.glob("*.py"))}


def own_methods():
    return sum([methods_of(source) for source in sources().values()], [])


def bound_at_top(source):
    found = []
    for node in ast.parse(source).body:
        if isinstance(node, (ast.FunctionDef, ast.ClassDef)):
            found.append(node.name)
        elif isinstance(node, ast.Assign):
            found.append(node.targets[0].id)
    return found


class CheckTest(unittest.TestCase):
    def test_it_sees_what_lies_outside(self):
        for source, rule in OUTSIDE:
            with self.subTest(source=source, rule=rule):
                self.assertIn(rule, [fault[1] for fault in faults_of(source, methods=methods_of(source))])

    def test_it_takes_what_lies_within(self):
        self.assertEqual(faults_of(WITHIN, methods=methods_of(WITHIN)), [])


class PackageTest(unittest.TestCase):
    def test_the_folder_holds_sources_alone(self):
        found = [path.name for path in PACKAGE.iterdir() if path.name != "__pycache__"]
        self.assertIn("__init__.py", found)
        self.assertEqual([name for name in found if not name.endswith(".py") or name != name.lower()], [])

    def test_each_file_keeps_to_the_rules(self):
        for name, source in sources().items():
            with self.subTest(name=name):
                self.assertEqual(faults_of(source, methods=own_methods()), [])

    def test_no_name_is_both_a_method_and_a_value(self):
        values = sum([values_of(source) for source in sources().values()], [])
        self.assertEqual(sorted(set(values) & set(own_methods())), [])

    def test_names_are_drawn_from_the_file_that_defines_them(self):
        known = sources()
        for name, source in known.items():
            for module, drawn in drawn_by(source):
                with self.subTest(name=name, module=module, drawn=drawn):
                    self.assertIn(drawn, bound_at_top(known[module.split(".")[1]]))

    def test_no_two_files_draw_from_one_another(self):
        left = {
            name: {module.split(".")[1] for module, drawn in drawn_by(source)} for name, source in sources().items()
        }
        while left:
            free = [name for name, drawn in left.items() if not drawn & set(left)]
            self.assertNotEqual(free, [], "these draw from one another: " + ", ".join(left))
            left = {name: drawn for name, drawn in left.items() if name not in free}


if __name__ == "__main__":
    unittest.main()
