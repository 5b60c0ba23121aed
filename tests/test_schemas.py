"""Schemas: what they accept, and what they tell."""

import unittest

from fetchwalks.errors import InvalidFields, InvalidFlags, InvalidKinds, InvalidSchema, UnknownKind, UnknownLink
from fetchwalks.schemas import Schema
from fetchwalks.stores import Store
from samples import ODD, rich_schema, shop_schema

NAMES = ["ka", "kb", "kc", "kd", "ke", "kf", "kg", "kh", "ki", "kj", "kk", "kl", "km"]
NO_NAMES = [None, True, 1, "", "abcdefghi", "A", "aB", "a1", "a_b", "a b", " a", "a\n", "a.b", b"a", [], ["a"], {}, (), ("a",)]


class Kinds(unittest.TestCase):
    def wrong(self, kinds, position):
        with self.assertRaises(InvalidKinds) as caught:
            Schema(kinds, {})
        self.assertEqual(caught.exception.position, position)

    def test_one_and_six(self):
        self.assertEqual(Schema(["a"], {}).kinds(), ["a"])
        self.assertEqual(Schema(NAMES[:6][::-1], {}).kinds(), NAMES[:6])

    def test_none_and_seven(self):
        self.wrong([], None)
        self.wrong((), None)
        self.wrong(NAMES[:7], None)

    def test_no_list(self):
        for value in [None, True, 1, "a", "ab", {"a": 1}, {}, b"a", object()]:
            self.wrong(value, None)

    def test_a_tuple_is_a_list(self):
        self.assertEqual(Schema(("b", "a"), {}).kinds(), ["a", "b"])

    def test_names(self):
        self.assertEqual(Schema(["abcdefgh", "z"], {}).kinds(), ["abcdefgh", "z"])
        for value in NO_NAMES:
            self.wrong(["a", value], 1)
            self.wrong([value, "a", value], 0)

    def test_a_name_twice(self):
        self.wrong(["a", "b", "a", "b"], 2)
        self.wrong(["a", "a", None], 1)

    def test_seven_wrong_ones(self):
        self.wrong([None] * 7, None)


class Fields(unittest.TestCase):
    def wrong(self, fields, name, kinds=("a", "b")):
        with self.assertRaises(InvalidFields) as caught:
            Schema(kinds, fields)
        self.assertEqual(caught.exception.name, name)

    def test_twelve_and_thirteen(self):
        fields = {name: ("a", "b", None, False) for name in NAMES}
        self.wrong(fields, None)
        del fields["ka"]
        self.assertEqual(Schema(["a", "b"], fields).fields(), fields)

    def test_twelve_fields_with_lists(self):
        fields = {name: ("a", "b", "l" + name, False) for name in NAMES[:12]}
        self.assertEqual(len(Schema(["a", "b"], fields).links()), 24)

    def test_no_dict(self):
        for value in [None, True, 0, "", [], (), [("f", ("a", "b", None, False))]]:
            self.wrong(value, None)

    def test_keys_that_are_no_names(self):
        for value in [None, True, 1, "", "abcdefghi", "A", "a1", b"a", (), ("a",)]:
            self.wrong({"f": ("a", "b", None, False), value: ("a", "b", None, False)}, None)
        self.wrong({"f": None, "G": None}, None)

    def test_values_that_are_no_such_tuples(self):
        right = ("a", "b", "l", False)
        wrong = [None, 1, "ab", [], list(right), {}, (), right[:3], right + (None,), ("c", "b", "l", False)]
        wrong += [("a", "c", "l", False), ("a", "b", "L", False), ("a", "b", "", False), ("a", "b", False, False)]
        wrong += [("a", "b", "l", None), ("a", "b", "l", 0), ("a", "b", "l", 1), ("a", "b", "l", "single")]
        wrong += [(None, "b", "l", False), ("a", [], "l", False), ("a", {}, "l", False), ("a", "b", [], False)]
        wrong += [("a", "b", {}, False), ("a", "b", (), False), ("a", "b", "l", []), (["a"], "b", "l", False)]
        wrong += [("a", "b", "abcdefghi", True), (True, "b", "l", True)]
        for value in wrong:
            self.wrong({"f": value}, "f")

    def test_the_first_key_sorted_decides(self):
        self.wrong({"z": None, "f": ("a", "b", None, False), "g": None, "h": None}, "g")

    def test_a_list_with_the_name_of_a_field(self):
        self.wrong({"f": ("a", "b", "f", False)}, "f")
        self.wrong({"f": ("a", "b", "g", False), "g": ("a", "b", None, False)}, "f")
        self.wrong({"f": ("a", "b", None, False), "g": ("a", "b", "f", False)}, "g")
        self.wrong({"f": ("a", "b", "z", False), "z": None}, "f")

    def test_a_list_with_the_name_of_an_earlier_list(self):
        self.wrong({"g": ("a", "b", "l", False), "f": ("a", "b", "l", False)}, "g")
        self.wrong({"g": ("b", "a", "l", False), "f": ("a", "b", "l", False), "h": None}, "g")

    def test_names_of_kinds_are_free(self):
        schema = Schema(["a", "b"], {"a": ("a", "b", "b", False)})
        self.assertEqual(schema.links(), ["a", "b"])


class Flags(unittest.TestCase):
    def wrong(self, flags, name):
        with self.assertRaises(InvalidFlags) as caught:
            Schema(["a", "b"], {"f": ("a", "b", "l", False)}, flags)
        self.assertEqual(caught.exception.name, name)

    def test_none(self):
        for schema in (Schema(["a"], {}), Schema(["a"], {}, ()), Schema(["a"], {}, {}), Schema(["a"], {}, flags=())):
            self.assertEqual(schema.flags(), {})

    def test_no_dict(self):
        for value in [None, True, False, 0, "", [], [()], (1,), ("u",), b""]:
            self.wrong(value, None)

    def test_twelve_and_thirteen(self):
        flags = {name: "a" for name in NAMES}
        self.wrong(flags, None)
        del flags["km"]
        self.assertEqual(Schema(["a"], {}, flags).flags(), flags)

    def test_keys_that_are_no_names(self):
        for value in [None, True, 1, "", "abcdefghi", "A", "a1", b"a", (), ("a",)]:
            self.wrong({"u": "a", value: "a"}, None)

    def test_the_name_of_a_link(self):
        self.wrong({"f": "a"}, "f")
        self.wrong({"l": "a", "z": None}, "l")

    def test_a_value_that_is_no_kind(self):
        for value in [None, True, 1, "", "c", "A", [], ["a"], {}, (), ("a",), b"a"]:
            self.wrong({"t": "a", "u": value, "v": value}, "u")

    def test_the_first_key_sorted_decides(self):
        self.wrong({"z": None, "u": "a", "w": "c", "v": "c"}, "v")

    def test_the_name_of_a_kind_is_free(self):
        self.assertEqual(Schema(["a"], {}, {"a": "a"}).flags_of("a"), ["a"])


class Sequence(unittest.TestCase):
    def test_kinds_then_fields_then_flags(self):
        with self.assertRaises(InvalidKinds):
            Schema([], None, None)
        with self.assertRaises(InvalidFields):
            Schema(["a"], None, None)
        with self.assertRaises(InvalidFlags):
            Schema(["a"], {}, None)

    def test_by_name(self):
        schema = Schema(flags={"u": "a"}, fields={"f": ("a", "a", None, True)}, kinds=["a"])
        self.assertEqual((schema.flags(), schema.links()), ({"u": "a"}, ["f"]))


class Questions(unittest.TestCase):
    def setUp(self):
        self.schema = rich_schema()

    def test_what_was_passed(self):
        self.assertEqual(self.schema.kinds(), ["a", "b"])
        self.assertEqual(self.schema.fields()["q"], ("a", "a", "n", True))
        self.assertEqual(list(self.schema.fields()), ["f", "g", "h", "i", "p", "q"])
        self.assertEqual(list(self.schema.flags().items()), [("u", "a"), ("v", "a"), ("w", "b")])

    def test_sorted_keys_whatever_was_passed(self):
        fields = {"z": ("a", "a", "y", False), "f": ("a", "a", None, False)}
        schema = Schema(["a"], fields, {"v": "a", "u": "a"})
        self.assertEqual([list(schema.fields()), list(schema.flags())], [["f", "z"], ["u", "v"]])

    def test_links(self):
        self.assertEqual(self.schema.links(), ["f", "g", "h", "i", "k", "l", "m", "n", "p", "q"])
        self.assertEqual(self.schema.links_from("a"), ["f", "g", "h", "k", "n", "p", "q"])
        self.assertEqual(self.schema.links_from("b"), ["i", "l", "m"])
        self.assertEqual(self.schema.flags_of("a"), ["u", "v"])
        self.assertEqual(Schema(["a"], {}).links(), [])

    def test_ends(self):
        ends = {link: (self.schema.kind_of(link), self.schema.target_of(link)) for link in self.schema.links()}
        wanted = {"f": "ab", "g": "ab", "h": "ab", "i": "ba", "k": "aa", "l": "ba", "m": "ba", "n": "aa", "p": "aa", "q": "aa"}
        self.assertEqual(ends, {link: tuple(pair) for link, pair in wanted.items()})

    def test_back(self):
        backs = {link: self.schema.back_of(link) for link in self.schema.links()}
        wanted = {"f": "l", "g": "m", "h": None, "i": None, "k": "p", "l": "f", "m": "g", "n": "q", "p": "k", "q": "n"}
        self.assertEqual(backs, wanted)

    def test_lists_and_single_links(self):
        links = self.schema.links()
        self.assertEqual([link for link in links if self.schema.is_list(link) is True], ["k", "l", "m", "n"])
        self.assertEqual([link for link in links if self.schema.is_list(link) is False], ["f", "g", "h", "i", "p", "q"])
        self.assertEqual([link for link in links if self.schema.is_single(link) is True], ["g", "h", "m", "n", "q"])
        self.assertEqual([link for link in links if self.schema.is_single(link) is False], ["f", "i", "k", "l", "p"])

    def test_by_name(self):
        self.assertEqual(self.schema.kind_of(link="f"), "a")
        self.assertEqual(self.schema.target_of(link="f"), "b")
        self.assertEqual(self.schema.back_of(link="f"), "l")
        self.assertEqual([self.schema.is_list(link="f"), self.schema.is_single(link="f")], [False, False])
        self.assertEqual(self.schema.flags_of(kind="b"), ["w"])
        self.assertEqual(self.schema.links_from(kind="b"), ["i", "l", "m"])

    def test_unknown_links(self):
        asks = [self.schema.kind_of, self.schema.target_of, self.schema.back_of, self.schema.is_list, self.schema.is_single]
        for value in ODD + ["x", "a", "u", ["f"], ("f",), {"f": 1}]:
            for ask in asks:
                with self.assertRaises(UnknownLink) as caught:
                    ask(value)
                self.assertIs(caught.exception.value, value)

    def test_unknown_kinds(self):
        for value in ODD + ["x", "f", "u", ["a"], {"a": 1}]:
            for ask in (self.schema.links_from, self.schema.flags_of):
                with self.assertRaises(UnknownKind) as caught:
                    ask(value)
                self.assertIs(caught.exception.value, value)


class Copies(unittest.TestCase):
    def test_what_is_returned_is_new(self):
        schema = rich_schema()
        schema.kinds().clear()
        schema.links().clear()
        schema.fields().clear()
        schema.flags().clear()
        schema.links_from("a").clear()
        schema.flags_of("a").clear()
        self.assertEqual(schema, rich_schema())
        self.assertEqual(schema.links(), rich_schema().links())
        self.assertEqual(schema.links_from("a"), rich_schema().links_from("a"))
        self.assertEqual(schema.flags_of("a"), ["u", "v"])

    def test_what_was_passed_can_be_changed_later(self):
        kinds, fields, flags = ["b", "a"], {"f": ("a", "b", "l", False)}, {"u": "a"}
        schema = Schema(kinds, fields, flags)
        self.assertEqual((kinds, list(fields), list(flags)), (["b", "a"], ["f"], ["u"]))
        kinds.append("c")
        fields["g"] = fields.pop("f")
        flags["v"] = "b"
        self.assertEqual(schema, Schema(["a", "b"], {"f": ("a", "b", "l", False)}, {"u": "a"}))
        self.assertEqual([schema.kinds(), schema.links(), schema.flags_of("b")], [["a", "b"], ["f", "l"], []])


class Equality(unittest.TestCase):
    def test_equal(self):
        fields = {"g": ("b", "a", None, False), "f": ("a", "b", "l", False)}
        one = Schema(["a", "b"], fields, {"u": "a", "v": "b"})
        other = Schema(("b", "a"), dict(sorted(fields.items())), {"v": "b", "u": "a"})
        self.assertTrue(one == other)
        self.assertFalse(one != other)
        self.assertTrue(Schema(["a"], {}) == Schema(["a"], {}, {}))

    def test_others(self):
        one = Schema(["a", "b"], {"f": ("a", "b", "l", False)}, {"u": "a"})
        others = [
            Schema(["a", "b", "c"], {"f": ("a", "b", "l", False)}, {"u": "a"}),
            Schema(["a", "b"], {"f": ("a", "b", "l", True)}, {"u": "a"}),
            Schema(["a", "b"], {"f": ("a", "b", None, False)}, {"u": "a"}),
            Schema(["a", "b"], {"g": ("a", "b", "l", False)}, {"u": "a"}),
            Schema(["a", "b"], {"f": ("b", "a", "l", False)}, {"u": "a"}),
            Schema(["a", "b"], {"f": ("a", "b", "l", False)}, {"u": "b"}),
            Schema(["a", "b"], {"f": ("a", "b", "l", False)}),
        ]
        for other in others:
            self.assertFalse(one == other)
            self.assertTrue(one != other)

    def test_values_of_other_kinds(self):
        for value in ODD + [shop_schema().fields(), Store(shop_schema()), "Schema", Schema]:
            self.assertFalse(shop_schema() == value)
            self.assertTrue(shop_schema() != value)


class Parameter(unittest.TestCase):
    def test_a_store_needs_a_schema(self):
        for value in ODD + [Schema, Store(shop_schema())]:
            with self.assertRaises(InvalidSchema) as caught:
                Store(value)
            self.assertIs(caught.exception.value, value)


if __name__ == "__main__":
    unittest.main()
