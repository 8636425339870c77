"""The files of the package: what ../shared/LANGUAGE.md asks of them, and the interface of the document."""

import ast
import inspect
import pathlib
import unittest

from lotmarks import (
    books, changes, partings, programs, races, rounds, rules, sweeps, tables, texts, versions, waves, webs,
)
from tests.language import complaints, package_complaints

FOLDER = pathlib.Path(webs.__file__).parent
SOURCES = {path.name: path.read_text(encoding="utf-8") for path in sorted(FOLDER.glob("*.py"))}

# For each rule that the script sees: files that break it.
BROKEN = {
    "L2": ["import sys\n", "from os import path\n", "from .webs import Web\n", "from lotmarks.webs import *\n"],
    "L3": ["A, B = 0, 1\n", "print(1)\n", "A = len('a')\n", "for a in (1, 2):\n    pass\n", "A = [x for x in (1, 2)]\n"],
    "L4": ["def f(a, /):\n    return a\n", "@told\ndef f():\n    return 1\n"],
    "L5": ["def f(xs):\n    return any(x for x in xs)\n", "@told\nclass A:\n    pass\n"],
    "L6": ["def f():\n    global A\n", "async def f():\n    pass\n"],
    "L7": ["def f():\n    return 1.5\n", "def f(a):\n    return a / 2\n", "def f(a):\n    a /= 2\n"],
    "L8": ["def f():\n    return print(1)\n", "def f(a):\n    return hash(a)\n", "def f():\n    return chr(1)\n"],
    "L10": ["def f():\n" + "    a = 1\n" * 40, "A = 1\n" * 400, "A = '" + "a" * 120 + "'\n", "def f():\n\treturn 1\n"],
    "L12": ["def f(_a):\n    return 1\n", "def f(xs):\n    for _ in xs:\n        pass\n", "def f(a):\n    return a._b\n",
            "class A:\n    def __hash__(self):\n        return 1\n"],
    "L14": ["A = '\u00e4'\n", "# \u2013\n"],
    "L15": ["A = 1\nA = 2\n", "def f(hash):\n    return 1\n", "def f():\n    id = 1\n",
            "class A:\n    pass\n\n\ndef f(A):\n    return 1\n", "from lotmarks.a import b\n\n\ndef f(b):\n    return b\n"],
    "L17": ["# type\n", "A = 'enum'\n", "def f(law):\n    return 1\n", "def register():\n    return 1\n"],
    "L19": ["def f():\n    raise ValueError\n", "def f(a):\n    raise a.b()\n",
            "def f():\n    try:\n        pass\n    except Exception:\n        pass\n"],
    "L20": ["def f(a, b):\n    return a is b\n", "def f(a):\n    return a is not f\n"],
    "L22": ["def f(a):\n    return isinstance(a, int | str)\n"],
    "L23": ["def f(xs):\n    for x in xs:\n        xs.append(x)\n",
            "def f(xs):\n    for x in xs[1]:\n        xs[1].clear()\n",
            "def f(a):\n    for at, x in enumerate(a.xs):\n        a.xs[at] = 1\n",
            "def f(xs):\n    for x, y in zip([1], xs):\n        xs += [x]\n",
            "def f(d):\n    for k in d:\n        del d[k]\n",
            "def f(d):\n    for k, x in d.items():\n        d[k] += x\n",
            "def f(xs):\n    return [xs.pop() for x in xs]\n",
            "def f(a):\n    xs = a.xs\n    for x in xs:\n        a.xs.append(x)\n",
            "def f(a, b):\n    for x in a or b:\n        b.append(x)\n",
            "def f(a, b):\n    a, b = b, a\n    for x in a:\n        b.append(x)\n",
            "def f(a):\n    while a:\n        b = []\n        for x in a:\n            b.append(x)\n        a = b\n"],
    "L24": ["def f(a):\n    return list(set(a))\n", "def f(a):\n    return [b for b in {c for c in a}]\n"],
    "L26": ["def f(a):\n    a.items = 1\n"],
    "L27": ["def f(n):\n    return 2 ** n\n", "A = '%'\n", "A = '__odd__'\n", "A = '._'\n"],
}
# Files that break none, though they come near to one.
WHOLE = [
    "def f(xs):\n    for x in list(xs):\n        xs.append(x)\n",
    "def f(xs):\n    ys = []\n    for x in xs:\n        ys.append(x)\n    return ys\n",
    "def f(xs, d):\n    for k in xs:\n        d[k] = d[k] + xs\n        xs = [k]\n",
    "def f(a, d):\n    for x in d.get(a, []):\n        d.pop(a)\n",
]
BROKEN_PACKAGES = {
    "L16": [
        {"a.py": "from lotmarks.b import c\n", "b.py": "from lotmarks.d import c\n", "d.py": "c = 1\n"},
        {"a.py": "from lotmarks.b import c\nd = 1\n", "b.py": "from lotmarks.a import d\nc = 1\n"},
        {"__init__.py": "from lotmarks.a import b\n", "a.py": "b = 1\n"},
    ],
    "L18": [
        {"a.py": "class A:\n    def b(self):\n        self.b = 1\n"},
        {"a.py": "class A:\n    def b(self):\n        return 1\n\n    def b(self):\n        return 2\n"},
        {"a.py": "def f(a):\n    return a.nobody\n"},
    ],
    "L25": [{"a.py": "def f(a):\n    return a.isidentical()\n"}, {"a.py": "def f(a):\n    return a.union(a)\n"}],
}

# The classes and functions of the interface that have landed: file, name, parameters.
FUNCTIONS = [
    (webs, "ring", ["web", "cells"]),
    (programs, "is_sweep", ["web", "program"]),
    (versions, "reads", ["web", "program"]),
    (versions, "kinds", ["web", "program"]),
    (versions, "same", ["web", "one", "other"]),
    (versions, "depth", ["web", "program", "cell"]),
    (versions, "ways", ["web", "program", "begin", "end"]),
    (versions, "needs", ["web", "program", "cell"]),
    (versions, "needed", ["web", "program"]),
    (versions, "idle", ["web", "program"]),
    (partings, "parting", ["web", "one", "other"]),
    (rounds, "settles", ["web", "program"]),
    (rounds, "alike_at", ["web", "one", "other", "most"]),
    (rules, "rests", ["rules"]),
    (rules, "first_unlike", ["rules", "one", "other"]),
    (rules, "sinks", ["rules", "program"]),
    (tables, "is_table", ["web", "thing"]),
    (tables, "table_of", ["web", "program"]),
    (tables, "lots_of", ["web", "table"]),
    (tables, "program_of", ["web", "table"]),
    (tables, "is_ring", ["web", "table", "renewings", "alone"]),
    (tables, "fewest_lots", ["web", "table"]),
    (tables, "chain", ["web", "table"]),
    (tables, "is_chain", ["web", "table", "renewings"]),
    (tables, "spans", ["web", "table", "n"]),
    (tables, "one_by_one", ["web", "table"]),
    (tables, "least", ["web", "program"]),
    (sweeps, "marks", ["web", "program"]),
    (sweeps, "sweep_of", ["web", "told"]),
    (sweeps, "how_many", ["web", "told"]),
    (sweeps, "sweep_number", ["web", "k", "told"]),
    (sweeps, "number_of", ["web", "program", "told"]),
    (sweeps, "sure", ["web", "told"]),
    (races, "race_marks", ["web", "cells", "acts"]),
    (races, "race_of", ["web", "cells", "told"]),
    (races, "races", ["web", "cells"]),
    (races, "aside", ["web", "cells"]),
    (races, "is_aside", ["web", "cells", "kept", "row"]),
    (changes, "joined", ["web", "program", "i"]),
    (changes, "swapped", ["web", "program", "i"]),
    (changes, "dropped", ["web", "program", "i", "cell"]),
    (changes, "sweeps_seen", ["rules", "beginning", "end"]),
    (waves, "row", ["piece", "n"]),
    (waves, "wave", ["piece", "pair", "n"]),
    (waves, "waves_part", ["piece", "one", "other"]),
    (texts, "written", ["thing"]),
    (texts, "read", ["text"]),
]
CLASSES = [
    (webs, "Web", ["rows"], {
        "sources": ["cell"], "targets": ["cell"], "__contains__": None, "__len__": [], "__iter__": [], "__eq__": None,
    }),
    (programs, "Program", ["lots"], {
        "times": ["n"], "renewings": [], "renewed": [], "__add__": None, "__len__": [], "__iter__": [], "__eq__": None,
    }),
    (rules, "Rules", ["web", "worths", "tables"], {
        "table": ["cell"], "tells": ["cell", "read"], "run": ["program", "beginning"], "__eq__": None,
    }),
    (partings, "Parting", ["rules", "beginning", "cell"], {}),
    (books, "Book", ["web"], {
        "hold": ["name", "one", "other"], "drop": ["name"], "state": ["name"], "names": [], "do": ["deed"], "undo": [],
        "again": [], "deeds": [],
    }),
    (waves, "Piece", ["cells", "arrows"], {}),
]
# Those parameters that have a default value.
DEFAULTS = {"is_ring": {"alone": False}, "how_many": {"told": None}, "sweep_number": {"told": None},
            "number_of": {"told": None}}


def parameters(function):
    return list(inspect.signature(function).parameters)


class TestLanguage(unittest.TestCase):
    def test_the_folder_holds_plain_files_only(self):
        names = sorted(path.name for path in FOLDER.iterdir() if path.name != "__pycache__")
        self.assertEqual(names, sorted(SOURCES))
        self.assertIn("__init__.py", names)

    def test_each_file(self):
        for name, source in SOURCES.items():
            self.assertEqual(complaints(name, source), [], name)

    def test_each_import_is_used(self):
        for name, source in SOURCES.items():
            tree = ast.parse(source)
            told = [one.name for node in tree.body if isinstance(node, ast.ImportFrom) for one in node.names]
            read = {node.id for node in ast.walk(tree) if isinstance(node, ast.Name)}
            self.assertEqual([one for one in told if one not in read], [], name)

    def test_all_files_together(self):
        self.assertEqual(package_complaints(SOURCES), [])

    def test_each_file_and_function_tells_what_it_is_for(self):
        for name, source in SOURCES.items():
            tree = ast.parse(source)
            self.assertIsNotNone(ast.get_docstring(tree), name)
            for node in ast.walk(tree):
                if isinstance(node, (ast.ClassDef, ast.FunctionDef)) and not node.name.startswith("__"):
                    self.assertIsNotNone(ast.get_docstring(node), (name, node.name))

    def test_the_script_lets_stand_what_is_whole(self):
        for source in WHOLE:
            self.assertEqual(complaints("a.py", source), [], source)

    def test_the_script_sees_what_is_broken(self):
        for rule, sources in BROKEN.items():
            for source in sources:
                self.assertIn(rule, [one for one, _ in complaints("a.py", source)], source)
        for rule, packages in BROKEN_PACKAGES.items():
            for sources in packages:
                self.assertIn(rule, [one for one, _ in package_complaints(sources)], sources)
        for name in ("A.py", "law_a.py", "test_a.py", "len.py", "enum.py", "tests.py", "a.txt"):
            self.assertIn("L14", [one for one, _ in complaints(name, "")], name)


class TestInterface(unittest.TestCase):
    def test_functions(self):
        for module, name, told in FUNCTIONS:
            function = vars(module)[name]
            self.assertTrue(inspect.isfunction(function))
            self.assertEqual(function.__module__, module.__name__)
            self.assertEqual(parameters(function), told, name)
            told = inspect.signature(function).parameters.values()
            found = {one.name: one.default for one in told if one.default is not one.empty}
            self.assertEqual(found, DEFAULTS.get(name, {}), name)

    def test_classes_and_their_methods(self):
        for module, name, told, methods in CLASSES:
            made = vars(module)[name]
            self.assertEqual((made.__module__, made.__bases__), (module.__name__, (object,)))
            self.assertEqual(parameters(made), told, name)
            for method, names in methods.items():
                self.assertIn(method, vars(made), name)
                if names is not None:
                    self.assertEqual(parameters(vars(made)[method])[1:], names, method)


if __name__ == "__main__":
    unittest.main()
