"""Tests of the interface, and of the form that the files of the package have."""

import ast
import doctest
import importlib
import inspect
import unittest
import warnings
from pathlib import Path

import sitout

FOLDER = Path(sitout.__file__).parent

INTERFACE = {
    "errors": {
        "SitError": (), "InvalidRule": (), "InvalidRoad": (), "InvalidEvent": (), "InvalidText": (),
        "InvalidGoal": (), "InvalidWhat": (), "InvalidSeen": (), "InvalidCommand": (), "Refused": (), "NoEvent": (),
    },
    "rules": {"Rule": ("time", "limit", "read", "__eq__", "__str__")},
    "roads": {"Road": ("upto", "further", "read", "__len__", "__getitem__", "__eq__", "__str__")},
    "plays": {"Played": ()},
    "live": {
        "Live": (
            "rule", "road", "played", "do", "several", "change", "undo", "trial", "within", "__len__", "__init__",
        ),
    },
    "desk": {"Desk": ("say", "__init__")},
}

FUNCTIONS = {
    "standings": {
        "begun": "()", "step": "(rule, standing, letter)", "letters": "(free=())", "standings": "(rule, free=())",
    },
    "plays": {"play": "(rule, road)"},
    "deciding": {"numbers": "(rule, goal)", "happens": "(rule, goal)", "road": "(rule, goal)"},
    "rates": {
        "worst": "(rule, what, free=())", "sick": "(rule)", "round_of": "(rule, what, free=())",
        "longest": "(rule, what, free=())",
    },
    "papers": {
        "paper": "(rule, what, share, free=())", "paper_holds": "(rule, what, share, value, free=())",
    },
    "comparing": {
        "alike": "(p, q, free=())", "parting": "(p, q, free=())", "covers": "(p, q, free=())",
        "uncovered": "(p, q, free=())",
    },
    "telling": {
        "fits": "(rule, seen, free=())", "fitting": "(rules, seen, free=())",
        "first_misfit": "(rule, seen, free=())",
    },
    "mending": {"mends": "(rule, what, share, free=())", "safe_top": "(under, up, spare, start)"},
}

# The arguments of each method, and of each class when it is made.
METHODS = {
    "rules": {
        "Rule": {
            "__init__": "(self, need, of, base, more, most, calm, back, top, under, up, hears)", "time": "(self, j)",
            "limit": "(self, n)",
        },
    },
    "roads": {
        "Road": {
            "__init__": "(self, callers, servers, events=())", "upto": "(self, many)", "further": "(self, events)",
            "__getitem__": "(self, at)",
        },
    },
    "live": {
        "Live": {
            "__init__": "(self, rule, callers, servers)", "do": "(self, event)", "several": "(self, events)",
            "change": "(self, rule)", "undo": "(self)", "trial": "(self)", "within": "(self, work)",
        },
    },
    "desk": {"Desk": {"__init__": "(self)", "say": "(self, command)"}},
}


def trees():
    for path in sorted(FOLDER.rglob("*.py")):
        with warnings.catch_warnings():
            warnings.simplefilter("error")
            yield path.name, ast.parse(path.read_text(encoding="ascii"), path.name)


class Interface(unittest.TestCase):
    def test_each_class_is_defined_in_its_file(self):
        for file, classes in INTERFACE.items():
            module = importlib.import_module(f"sitout.{file}")
            tree = ast.parse((FOLDER / f"{file}.py").read_text(encoding="ascii"))
            defined = [node.name for node in tree.body if isinstance(node, ast.ClassDef)]
            for name in classes:
                with self.subTest(name):
                    self.assertIn(name, defined)
                    self.assertEqual(getattr(module, name).__module__, f"sitout.{file}")

    def test_each_method_is_defined_in_its_class(self):
        for file, classes in INTERFACE.items():
            module = importlib.import_module(f"sitout.{file}")
            for name, methods in classes.items():
                for method in methods:
                    with self.subTest(name=name, method=method):
                        self.assertIn(method, vars(getattr(module, name)))

    def test_each_method_has_its_arguments(self):
        for file, classes in METHODS.items():
            module = importlib.import_module(f"sitout.{file}")
            for name, methods in classes.items():
                for method, arguments in methods.items():
                    with self.subTest(name=name, method=method):
                        self.assertEqual(str(inspect.signature(vars(getattr(module, name))[method])), arguments)

    def test_each_function_is_defined_in_its_file_with_its_arguments(self):
        for file, functions in FUNCTIONS.items():
            module = importlib.import_module(f"sitout.{file}")
            tree = ast.parse((FOLDER / f"{file}.py").read_text(encoding="ascii"))
            defined = [node.name for node in tree.body if isinstance(node, ast.FunctionDef)]
            for name, arguments in functions.items():
                with self.subTest(file=file, name=name):
                    self.assertIn(name, defined)
                    self.assertEqual(str(inspect.signature(getattr(module, name))), arguments)

    def test_the_package_file_is_empty_but_for_a_docstring(self):
        tree = ast.parse((FOLDER / "__init__.py").read_text(encoding="ascii"))
        self.assertEqual(len(tree.body), 1)
        self.assertTrue(ast.get_docstring(tree))


class Readme(unittest.TestCase):
    def test_the_examples_hold(self):
        results = doctest.testfile(str(FOLDER.parent / "README.md"), module_relative=False, encoding="ascii")
        self.assertGreater(results.attempted, 10)
        self.assertEqual(results.failed, 0)


class Form(unittest.TestCase):
    def test_size_and_characters(self):
        for path in FOLDER.rglob("*.py"):
            lines = path.read_text(encoding="ascii").split("\n")
            with self.subTest(path.name):
                self.assertLessEqual(len(lines), 400)
                self.assertLessEqual(max(len(line) for line in lines), 120)
                self.assertTrue(all(" " <= sign <= "~" for line in lines for sign in line))

    def test_functions_are_small(self):
        for file, tree in trees():
            for node in ast.walk(tree):
                if isinstance(node, ast.FunctionDef):
                    with self.subTest(file=file, function=node.name):
                        self.assertLessEqual(node.end_lineno - node.lineno + 1, 40)

    def test_imports_are_of_the_package(self):
        library = ("heapq", "math", "itertools", "collections")
        for file, tree in trees():
            for node in ast.walk(tree):
                with self.subTest(file=file):
                    self.assertNotIsInstance(node, ast.Import)
                    if isinstance(node, ast.ImportFrom):
                        self.assertEqual(node.level, 0)
                        self.assertTrue(node.module.startswith("sitout.") or node.module in library, node.module)


if __name__ == "__main__":
    unittest.main()
