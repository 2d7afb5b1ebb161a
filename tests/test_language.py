"""The package keeps to LANGUAGE.md."""

import pathlib
import unittest

import bendtables
from tests.language import faults_of

FOLDER = pathlib.Path(bendtables.__file__).resolve().parent

GOOD = '''"""A file."""

from bendtables.other import helped

LIMIT = 10 ** 6


class Box:
    """A box."""

    def __init__(self, many):
        self.many = many

    def more(self, by=1):
        return Box(self.many + by)


class Bag:
    """A bag, whose method takes other arguments than that of a box."""

    def more(self, one, other, third):
        return one + other + third


def counted(things, bag):
    """How many unlike ones there are."""
    return bag.more(len(set(things)), len(sorted(set(things))), things.more())


def told(things):
    """What is told."""
    rows = [helped(thing) for thing in things if thing is not None]
    rows.append(len(rows))
    for at, row in enumerate(rows):
        if row > LIMIT:
            return (at, *rows)
    return tuple(row * 2 for row in rows)


def nested(things, start):
    """What is told by a nested function."""

    def sum_to(end):
        total = start
        for thing in things[:end]:
            total += thing
        return total

    return [sum_to(at + 1) for at in range(len(things))]
'''

OTHER = '''"""Another file."""


class Bad(ValueError):
    """Why."""


def helped(thing):
    if isinstance(thing, bool):
        raise Bad("a truth")
    return thing
'''

# A rule, and a row that breaks it, put into a function of its own.
BAD_ROWS = (
    ("L6", "global LIMIT"), ("L6", "del things"), ("L6", "things"), ("L6", "import sys"), ("L7", "return 1.5"), ("L7", "return 1 / 2"),
    ("L7", "return b'a'"), ("L7", "return (x for x in things)"), ("L7", "return f'{things:>5}'"), ("L7", "return [1](2)"),
    ("L8", "return hash(things)"), ("L8", "return print(things)"), ("L8", "return unknown"), ("L12", "_x = 1"),
    ("L13", "return lambda x: x"), ("L15", "len = 1"), ("L15", "map = 1"), ("L15", "helped = 1"), ("L15", "Box = 1"),
    ("L17", "elements = 1"), ("L17", "return things.f_back"), ("L17", "return 1  # the type"), ("L18", "return [Box]"),
    ("L18", "return things.colour"), ("L19", "raise things"), ("L19", "raise ValueError"), ("L19", "raise ValueError('x')"),
    ("L20", "return things is LIMIT"), ("L20", "return things is 1"), ("L21", "many: int = 1"), ("L22", "return helped(1, 2)"),
    ("L22", "return helped()"), ("L22", "return Box()"), ("L22", "return isinstance(1, things)"), ("L22", "return sorted(things, bad=1)"),
    ("L22", "f = len"), ("L22", "return things.more(1, 2)"), ("L22", "return things.more(1, 2, 3, 4)"), ("L23", "return range(3)"), ("L23", "x = things.items()"),
    ("L23", "for x in things: things.append(x)"), ("L23", "for x in zip(things, things): things[0] = x"),
    ("L24", "return {1, 2}"), ("L24", "return set(things)"), ("L24", "return {x for x in things}"), ("L25", "return things.isprime()"),
    ("L24", "return sum(set(things))"), ("L24", "return sorted(set(things), reverse=True)"), ("L24", "return len(frozenset(things))"),
    ("L24", "return [x for x in set(things)]"), ("L24", "return things.len(set(things))"), ("L22", "f = set"),
    ("L25", "return things.append"), ("L26", "things.hex = 1"), ("L27", "return 2 ** LIMIT"), ("L27", "return 10 ** 65"),
    ("L27", "return 'a%b'"), ("L27", "return '\\x41'"), ("L27", "return 'a._'"), ("L27", "return chr(65)"), ("L10", "x = 1" + " " * 120 + "+ 1"),
    ("L14", "return 'caf\u00e9'"), ("L5", "return super(Box, things)"), ("L5", "return super().more()"),
)

# A rule, and rows that break it at module level.
BAD_FILES = (
    ("L2", "import sys"), ("L2", "from sys import argv"), ("L2", "from .other import helped"), ("L2", "from bendtables.other import *"),
    ("L2", "LIMIT = 1\nfrom bendtables.other import helped"), ("L2", "from bendtables.none import one"),
    ("L16", "from bendtables.other import missing"), ("L3", "ROWS = [1]"), ("L3", "for x in 'ab':\n    pass"), ("L3", "MANY = len('ab')"),
    ("L4", "def f(*rest):\n    return rest"), ("L4", "def f(a, /):\n    return a"), ("L4", "def f(a=[]):\n    return a"),
    ("L4", "def f(a):\n    def g():\n        a = 1\n        return a\n    return g()"), ("L4", "@f\ndef f():\n    return 1"),
    ("L4", "def f(a):\n    def g(a):\n        return a\n    return g(1)"), ("L6", "def f(a):\n    def g():\n        nonlocal a\n    g()"),
    ("L4", "def f(a):\n    if a:\n        def g():\n            return 1\n    return a"),
    ("L4", "def f():\n    def g():\n        def h():\n            return 1\n        return h()\n    return g()"),
    ("L8", "def f():\n    def g():\n        return b\n    return g()"), ("L8", "def f():\n    def g(b):\n        return b\n    return b"),
    ("L8", "def f():\n    def g():\n        b = 1\n        return b\n    return g() + b"), ("L15", "def f():\n    def len():\n        return 1"),
    ("L15", "def f():\n    def f():\n        return 1"), ("L10", "def f():\n    def g():\n" + "        x = 1\n" * 40),
    ("L5", "class A:\n    def __hash__(self):\n        return 1"), ("L5", "class A(dict):\n    pass"), ("L5", "class A:\n    many = 1"),
    ("L15", "def f():\n    return 1\n\n\ndef f():\n    return 2"), ("L15", "def f():\n    class A:\n        pass"),
    ("L18", "class A:\n    def f(self):\n        return 1\n\n    def f(self):\n        return 2"),
    ("L18", "class A:\n    def __init__(self):\n        self.f = 1\n\n\nclass B:\n    def f(self):\n        return 1"),
    ("L19", "def f():\n    try:\n        return 1\n    except ValueError:\n        return 2"),
    ("L21", "def f(a: int):\n    return a"), ("L21", "def f() -> int:\n    return 1"),
    ("L26", "class A:\n    def decode(self):\n        return 1"), ("L28", "class A:\n    def __init__(self):\n        return None"),
    ("L10", "def f():\n" + "    x = 1\n" * 40), ("L10", "# a\n" * 401), ("L8", "def len():\n    return 1"),
)


def sources():
    return {path.name: path.read_text(encoding="ascii") for path in sorted(FOLDER.glob("*.py"))}


class PackageTest(unittest.TestCase):
    def test_the_package_keeps_to_the_language(self):
        self.assertEqual(faults_of(sources()), [])

    def test_the_folder_holds_nothing_else(self):
        others = [path.name for path in FOLDER.iterdir() if path.suffix != ".py" and path.name != "__pycache__"]
        self.assertEqual(others, [])
        self.assertIn("__init__.py", sources())
        self.assertLessEqual(len(sources()), 100)


class CheckerTest(unittest.TestCase):
    def rules(self, files):
        return {fault[0] for fault in faults_of(files)}

    def test_what_is_right_is_let_by(self):
        self.assertEqual(faults_of({"__init__.py": '"""A."""\n', "one.py": GOOD, "other.py": OTHER}), [])

    def test_rows_that_are_not_let_by(self):
        for rule, row in BAD_ROWS:
            text = GOOD + "\n\ndef wrong(things):\n    " + row + "\n"
            self.assertIn(rule, self.rules({"one.py": text, "other.py": OTHER}), row)

    def test_files_that_are_not_let_by(self):
        for rule, text in BAD_FILES:
            self.assertIn(rule, self.rules({"one.py": text + "\n", "other.py": OTHER}), text)

    def test_rings_of_imports(self):
        one = "from bendtables.two import b\n\n\ndef a():\n    return b()\n"
        two = "from bendtables.one import a\n\n\ndef b():\n    return a()\n"
        self.assertIn("L16", self.rules({"one.py": one, "two.py": two}))

    def test_names_of_files(self):
        for name in ("Big.py", "test_a.py", "tests.py", "sum.py", "a-b.py", "site.py"):
            self.assertIn("L14", self.rules({name: "LIMIT = 1\n"}), name)


if __name__ == "__main__":
    unittest.main()
