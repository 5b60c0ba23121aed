"""The package itself: its files, and where the names of its interface are defined."""

import ast
import importlib
import inspect
import pathlib
import unittest

PACKAGE = pathlib.Path(__file__).resolve().parent.parent / "fetchwalks"

FUNCTIONS = {
    "runs": {
        "touches": "walk, store, roots", "loops_of": "walk, store, roots", "touched": "walk, store, roots",
        "looped_lists": "walk, store, roots",
    },
    "plans": {
        "tried_words": "plan, words, ask", "can_follow": "schema, one, other", "first_ring": "schema, links",
    },
    "sessions": {"questions": "store, plan, walk, roots"},
    "words": {
        "is_route": "walk, value", "is_place": "walk, value", "kind_at": "walk, route", "route_text": "route",
        "read_route": "walk, text", "leads": "walk, place, link", "reductions": "walk, route",
    },
    "places": {
        "places_at": "walk, spot", "touched_places": "walk", "kept_places": "walk, plan", "looped_places": "walk",
        "place_table": "walk", "is_place_table": "walk, value", "why_place": "walk, place",
        "shows_place": "walk, place, value", "prefixes": "walk, place",
    },
    "numbers": {
        "weight": "walk, place", "answer_classes": "walk, plan", "most": "walk, plan", "most_kept": "walk, plan",
        "most_by_link": "walk, plan", "first_growing": "walk, plan",
    },
    "free": {"free_store": "walk, plan, sizes", "asked_and_kept": "walk, plan, store, roots"},
    "minimal": {"minimal_store": "walk, spot", "minimal_for_loop": "walk, loop"},
    "walkpairs": {
        "is_within": "one, other, *, lists=True", "are_alike": "one, other, *, lists=True", "covers": "one, other",
        "parting": "one, other, *, lists=True", "is_parting": "one, other, value, *, lists=True", "maps": "one, other",
        "are_maps": "one, other, value", "needless": "walk", "lean": "walk", "is_lean": "walk",
    },
    "early": {
        "must": "walk", "is_bounded": "walk, plan", "bound": "walk, plan", "bounded_plan": "walk", "used_links": "walk",
        "unbeaten": "walk, sizes",
    },
    "growth": {
        "leading": "total", "grows_no_faster": "one, other", "shares": "one, other", "are_shares": "one, other, value",
        "direction": "one, other", "is_direction": "one, other, value",
    },
    "changes": {"tried_changes": "editor, changes, ask"},
    "texts": {
        "schema_text": "schema", "walk_text": "walk", "plan_text": "plan", "read_schema": "text", "read_walk": "schema, text",
        "read_plan": "schema, text",
    },
    "judge": {"is_claim": "value", "certificate_of": "claim", "is_certificate": "claim, value"},
}

# What the four sorts of questions, and what they derive from, have.
QUESTION = {
    "label": None, "link_name": None, "find_name": None, "asked_number": None, "brought": None, "brought_lists": None,
    "behind": None, "__eq__": "self, other", "__repr__": "self",
}

CLASSES = {
    ("schemas", "Schema"): {
        "__init__": "self, kinds, fields, flags=()", "kinds": "self", "fields": "self", "flags": "self",
        "links": "self", "kind_of": "self, link", "target_of": "self, link", "back_of": "self, link",
        "is_list": "self, link", "is_single": "self, link", "links_from": "self, kind", "flags_of": "self, kind",
        "__eq__": "self, other",
    },
    ("stores", "Store"): {
        "__init__": "self, schema", "__setitem__": None, "__getitem__": None, "__iadd__": None, "__contains__": None,
        "__len__": "self", "ids": "self, kind", "members": "self, link, number", "rows": "self", "copy": "self",
        "__eq__": "self, other",
    },
    ("walks", "Walk"): {
        "__init__": "self, schema, finds, blocks=()", "finds": "self", "written_out": "self", "spots": "self",
        "loops": "self", "kind_of": "self, spot", "route": "self, spot", "owner_of": "self, spot",
        "statement": "self, path", "without": "self, path", "__or__": None, "__add__": None, "__len__": "self",
        "__contains__": None, "__eq__": "self, other",
    },
    ("plans", "Plan"): {
        "__init__": "self, schema", "__setitem__": None, "__getitem__": None, "__ior__": None, "__contains__": None,
        "__len__": "self", "words": "self", "copy": "self", "__eq__": "self, other", "__repr__": "self", "of": None,
        "trial": "self",
    },
    ("sessions", "Session"): {
        "__init__": "self, store, plan=None", "run": "self, walk, roots", "walked": "self, walk, roots", "log": "self",
        "keeps": "self, kind, number", "keeps_list": "self, link, number", "objects": "self", "lists": "self",
        "__len__": "self", "by_label": "self", "by_link": "self", "take_plan": "self, plan", "copy": "self",
    },
    ("sessions", "Question"): QUESTION, ("sessions", "Late"): QUESTION, ("sessions", "FindQuestion"): QUESTION,
    ("sessions", "AheadQuestion"): QUESTION, ("sessions", "ObjectQuestion"): QUESTION,
    ("sessions", "ListQuestion"): QUESTION,
    ("places", "Places"): {
        "__init__": "self, walk, rows=()", "__or__": None, "__and__": None, "__sub__": None, "is_part_of": "self, other",
        "__eq__": "self, other", "__contains__": None, "__len__": "self", "__bool__": "self", "rows": "self",
        "of_find": "self, name", "ending": "self, link", "below": "self, place",
    },
    ("sizes", "Sizes"): {
        "__init__": "self, walk", "__setitem__": None, "__getitem__": None, "names": "self", "copy": "self",
        "__eq__": "self, other", "of": None, "fault": "self, store, roots",
    },
    ("sums", "Sum"): {
        "__init__": "self, number=0", "size": None, "__add__": None, "__radd__": None, "__sub__": None, "__rsub__": None,
        "__mul__": None, "__rmul__": None, "__neg__": "self", "__pow__": None, "__call__": "self, sizes",
        "products": "self", "shifted": "self", "at_most": "self, other", "__eq__": "self, other", "__bool__": "self",
        "__repr__": "self",
    },
    ("numbers", "Answers"): {"__eq__": "self, other"},
    ("changes", "Editor"): {
        "__init__": "self, store, plan=None", "change": "self, kind, number, name, value", "__iadd__": None,
        "shown": "self, kind, number", "members_shown": "self, link, number", "changed": "self", "undo": "self", "save": "self",
        "trial": "self", "copy": "self",
    },
    ("desk", "Desk"): {
        "do": "self, command", "do_all": "self, *commands", "undo": "self", "names": "self", "named": "self, name", "log": "self",
        "__len__": "self", "__contains__": None,
    },
}

PROPERTIES = [
    ("stores", "Store", "schema"), ("walks", "Walk", "schema"), ("plans", "Plan", "schema"), ("sessions", "Session", "plan"),
    ("sessions", "Session", "store"), ("places", "Places", "is_closed"), ("sums", "Sum", "degree"),
    ("sums", "Sum", "constant"), ("numbers", "Answers", "label"), ("numbers", "Answers", "at_place"),
    ("numbers", "Answers", "link_name"), ("numbers", "Answers", "times"), ("numbers", "Answers", "new"),
    ("numbers", "Answers", "behind"),
]

# What may be imported from elsewhere.
LIBRARY = {"math": ("comb", "gcd", "lcm")}


def parameters(function):
    return str(inspect.signature(function))[1:-1]


class Interface(unittest.TestCase):
    def test_functions_stand_in_their_files(self):
        for file, rows in FUNCTIONS.items():
            module = importlib.import_module(f"fetchwalks.{file}")
            for name, wanted in rows.items():
                function = getattr(module, name)
                self.assertEqual((function.__module__, parameters(function)), (module.__name__, wanted))

    def test_generators(self):
        runs, places, sessions = [importlib.import_module(f"fetchwalks.{file}") for file in ("runs", "places", "sessions")]
        for function in (runs.touches, runs.loops_of, places.prefixes, sessions.Session.walked):
            self.assertTrue(inspect.isgeneratorfunction(function))

    def test_methods_of_classes(self):
        plans, sizes, sums = [importlib.import_module(f"fetchwalks.{file}") for file in ("plans", "sizes", "sums")]
        self.assertEqual(parameters(plans.Plan.of), "schema, **words")
        self.assertEqual(parameters(sizes.Sizes.of), "walk, *rows")
        self.assertEqual(parameters(sums.Sum.size), "label, name")

    def test_methods_stand_in_their_classes(self):
        for (file, name), rows in CLASSES.items():
            module = importlib.import_module(f"fetchwalks.{file}")
            made = getattr(module, name)
            self.assertEqual(made.__module__, module.__name__)
            for method, wanted in rows.items():
                self.assertIn(method, vars(made))
                if wanted is not None:
                    self.assertEqual(parameters(vars(made)[method]), wanted)

    def test_properties(self):
        for file, name, wanted in PROPERTIES:
            made = getattr(importlib.import_module(f"fetchwalks.{file}"), name)
            self.assertIsInstance(vars(made)[wanted], property)


class Files(unittest.TestCase):
    def files(self):
        return sorted(PACKAGE.glob("*.py"))

    def test_nothing_else_is_there(self):
        others = [path.name for path in PACKAGE.iterdir() if path.suffix != ".py" and path.name != "__pycache__"]
        self.assertEqual(others, [])
        self.assertIn("__init__.py", [path.name for path in self.files()])

    def test_sizes(self):
        for path in self.files():
            lines = path.read_text(encoding="utf-8").split("\n")
            self.assertLess(len(lines), 400, path.name)
            self.assertLessEqual(max([len(line) for line in lines]), 120, path.name)
            for node in ast.walk(ast.parse(path.read_text(encoding="utf-8"))):
                if isinstance(node, ast.FunctionDef):
                    self.assertLessEqual(node.end_lineno - node.lineno + 1, 40, node.name)

    def test_characters(self):
        for path in self.files():
            text = path.read_text(encoding="utf-8")
            self.assertTrue(all([" " <= sign <= "~" or sign == "\n" for sign in text]), path.name)

    def test_imports_come_from_the_package_alone(self):
        for path in self.files():
            for node in ast.walk(ast.parse(path.read_text(encoding="utf-8"))):
                self.assertNotIsInstance(node, ast.Import)
                if isinstance(node, ast.ImportFrom):
                    names = [alias.name for alias in node.names]
                    own = node.module.startswith("fetchwalks.")
                    self.assertTrue(own or set(names) <= set(LIBRARY.get(node.module, ())), path.name)


if __name__ == "__main__":
    unittest.main()
