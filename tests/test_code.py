"""The package itself: its files, and where the names of its interface are defined."""

import ast
import importlib
import inspect
import pathlib
import unittest

PACKAGE = pathlib.Path(__file__).resolve().parent.parent / "fetchwalks"

FUNCTIONS = {
    "runs": {
        "touches": "walk, store, roots", "loops_of": "walk, store, roots", "touched": "walk, store, roots",
        "looped_lists": "walk, store, roots",
    },
    "minimal": {"minimal_store": "walk, spot", "minimal_for_loop": "walk, loop"},
    "walkpairs": {
        "is_within": "one, other, *, lists=True", "are_alike": "one, other, *, lists=True", "covers": "one, other",
        "parting": "one, other, *, lists=True", "is_parting": "one, other, value, *, lists=True", "maps": "one, other",
        "are_maps": "one, other, value", "needless": "walk", "lean": "walk", "is_lean": "walk",
    },
}

CLASSES = {
    ("schemas", "Schema"): {
        "__init__": "self, kinds, fields, flags=()", "kinds": "self", "fields": "self", "flags": "self",
        "links": "self", "kind_of": "self, link", "target_of": "self, link", "back_of": "self, link",
        "is_list": "self, link", "is_single": "self, link", "links_from": "self, kind", "flags_of": "self, kind",
        "__eq__": "self, other",
    },
    ("stores", "Store"): {
        "__init__": "self, schema", "__setitem__": None, "__getitem__": None, "__iadd__": None, "__contains__": None,
        "__len__": "self", "ids": "self, kind", "members": "self, link, number", "rows": "self", "copy": "self",
        "__eq__": "self, other",
    },
    ("walks", "Walk"): {
        "__init__": "self, schema, finds, blocks=()", "finds": "self", "written_out": "self", "spots": "self",
        "loops": "self", "kind_of": "self, spot", "route": "self, spot", "owner_of": "self, spot",
        "statement": "self, path", "without": "self, path", "__or__": None, "__add__": None, "__len__": "self",
        "__contains__": None, "__eq__": "self, other",
    },
}

PROPERTIES = [("stores", "Store", "schema"), ("walks", "Walk", "schema")]


def parameters(function):
    return str(inspect.signature(function))[1:-1]


class Interface(unittest.TestCase):
    def test_functions_stand_in_their_files(self):
        for file, rows in FUNCTIONS.items():
            module = importlib.import_module(f"fetchwalks.{file}")
            for name, wanted in rows.items():
                function = getattr(module, name)
                self.assertEqual((function.__module__, parameters(function)), (module.__name__, wanted))

    def test_generators(self):
        module = importlib.import_module("fetchwalks.runs")
        self.assertTrue(inspect.isgeneratorfunction(module.touches))
        self.assertTrue(inspect.isgeneratorfunction(module.loops_of))

    def test_methods_stand_in_their_classes(self):
        for (file, name), rows in CLASSES.items():
            module = importlib.import_module(f"fetchwalks.{file}")
            made = getattr(module, name)
            self.assertEqual(made.__module__, module.__name__)
            for method, wanted in rows.items():
                self.assertIn(method, vars(made))
                if wanted is not None:
                    self.assertEqual(parameters(vars(made)[method]), wanted)

    def test_properties(self):
        for file, name, wanted in PROPERTIES:
            made = getattr(importlib.import_module(f"fetchwalks.{file}"), name)
            self.assertIsInstance(vars(made)[wanted], property)


class Files(unittest.TestCase):
    def files(self):
        return sorted(PACKAGE.glob("*.py"))

    def test_nothing_else_is_there(self):
        others = [path.name for path in PACKAGE.iterdir() if path.suffix != ".py" and path.name != "__pycache__"]
        self.assertEqual(others, [])
        self.assertIn("__init__.py", [path.name for path in self.files()])

    def test_sizes(self):
        for path in self.files():
            lines = path.read_text(encoding="utf-8").split("\n")
            self.assertLess(len(lines), 400, path.name)
            self.assertLessEqual(max([len(line) for line in lines]), 120, path.name)
            for node in ast.walk(ast.parse(path.read_text(encoding="utf-8"))):
                if isinstance(node, ast.FunctionDef):
                    self.assertLessEqual(node.end_lineno - node.lineno + 1, 40, node.name)

    def test_characters(self):
        for path in self.files():
            text = path.read_text(encoding="utf-8")
            self.assertTrue(all([" " <= sign <= "~" or sign == "\n" for sign in text]), path.name)

    def test_imports_come_from_the_package_alone(self):
        for path in self.files():
            for node in ast.walk(ast.parse(path.read_text(encoding="utf-8"))):
                self.assertNotIsInstance(node, ast.Import)
                if isinstance(node, ast.ImportFrom):
                    self.assertTrue(node.module.startswith("fetchwalks."), path.name)


if __name__ == "__main__":
    unittest.main()
