"""Sizes: which there are, how they are set, and whether stores keep them."""

import unittest

from fetchwalks.errors import InvalidRoots, InvalidSize, InvalidSizeName, InvalidStore, NoWalk, OtherSchema
from fetchwalks.schemas import Schema
from fetchwalks.sizes import Sizes
from fetchwalks.stores import Store
from fetchwalks.walks import Walk
from samples import ODD, rich_schema, rich_store, row_a, row_b, shop_schema

NO_SIZE_NAMES = [("find", "y"), ("find", "l"), ("list", "x"), ("list", "m"), ("list", "n"), ("list", "f"), ("list", "h"),
                 ("find", "z"), ("Find", "x"), ("lists", "l"), ("object", "x"), (None, None), (True, "x"), ("find", None),
                 (["find"], "x"), ("find", ["x"]), ({}, {}), ("find", ("x",)), (b"find", "x"), (0, 1)]


def rich_walk(*names):
    finds = [("find", name, "a", "one" if name == "y" else "many", ()) for name in names or ("x", "y", "w")]
    return Walk(rich_schema(), finds)


def put(sizes, label, name, number):
    sizes[label, name] = number


class SizeTest(unittest.TestCase):
    def raises(self, error, attributes, ask, *arguments):
        with self.assertRaises(error) as caught:
            ask(*arguments)
        self.assertEqual(vars(caught.exception), attributes)


class Made(SizeTest):
    def setUp(self):
        self.sizes = Sizes(rich_walk())

    def test_names(self):
        # Neither finds "one", nor fields without lists, nor lists of single fields have sizes.
        self.assertEqual(self.sizes.names(), [("find", "w"), ("find", "x"), ("list", "k"), ("list", "l")])
        self.assertEqual(Sizes(Walk(Schema(["a"], {}), [("find", "x", "a", "one", ())])).names(), [])
        self.sizes.names().clear()
        self.assertEqual(len(self.sizes.names()), 4)

    def test_at_first(self):
        self.assertEqual([self.sizes[label, name] for label, name in self.sizes.names()], [1, 1, 2, 2])

    def test_no_walk(self):
        for value in ODD + [rich_schema(), Walk]:
            self.raises(NoWalk, {"value": value}, Sizes, value)
            self.raises(NoWalk, {"value": value}, Sizes.of, value, None)

    def test_set_and_asked(self):
        for number in (1, 2, 7, 10 ** 30):
            self.sizes["find", "x"] = number
            self.assertEqual([self.sizes["find", "x"], self.sizes["find", "w"]], [number, 1])
        self.sizes["list", "l"] = 10 ** 30
        self.assertEqual([self.sizes["list", "l"], self.sizes["list", "k"]], [10 ** 30, 2])
        self.sizes["list", "l"] = 2
        self.assertEqual(self.sizes["list", "l"], 2)

    def test_wrong_names_ahead_of_wrong_sizes(self):
        for label, name in NO_SIZE_NAMES:
            self.raises(InvalidSizeName, {"value": (label, name)}, put, self.sizes, label, name, 0)
            self.raises(InvalidSizeName, {"value": (label, name)}, lambda: self.sizes[label, name])
        self.assertEqual(self.sizes, Sizes(rich_walk()))

    def test_wrong_sizes(self):
        for value in ODD + [-5, 10 ** 30 + 1, 10 ** 400, "3", [3]]:
            self.raises(InvalidSize, {"value": value}, put, self.sizes, "find", "x", value)
            self.raises(InvalidSize, {"value": value}, put, self.sizes, "list", "l", value)
        self.raises(InvalidSize, {"value": 1}, put, self.sizes, "list", "l", 1)
        self.assertEqual(self.sizes, Sizes(rich_walk()))

    def test_of(self):
        sizes = Sizes.of(rich_walk(), ("find", "x", 5), ("list", "k", 6), ("find", "x", 7))
        self.assertEqual([sizes[label, name] for label, name in sizes.names()], [1, 7, 6, 2])
        self.assertEqual(Sizes.of(rich_walk()), Sizes(rich_walk()))
        for value in ODD + [("find", "x"), ["find", "x", 2], ("find", "x", 2, 2), "abc"]:
            self.raises(InvalidSizeName, {"value": value}, Sizes.of, rich_walk(), ("find", "x", 3), value, None)
        self.raises(InvalidSizeName, {"value": ("find", "y")}, Sizes.of, rich_walk(), ("find", "y", None))
        self.raises(InvalidSizeName, {"value": (None, [1])}, Sizes.of, rich_walk(), (None, [1], 2))
        self.raises(InvalidSize, {"value": True}, Sizes.of, rich_walk(), ("find", "x", True), ("find", "y", 1))

    def test_copies(self):
        twin = self.sizes.copy()
        self.assertEqual(twin, self.sizes)
        twin["find", "x"] = 3
        self.sizes["list", "k"] = 4
        self.assertEqual([twin["list", "k"], self.sizes["find", "x"]], [2, 1])

    def test_equality(self):
        self.assertEqual(self.sizes, Sizes(Walk(rich_schema(), [
            ("find", "x", "a", "many", (("go", "x", "f", "y", ()),)), ("find", "y", "a", "one", ()), ("find", "w", "a", "many", ())])))
        self.assertNotEqual(self.sizes, Sizes(rich_walk("w", "x", "y")))
        self.assertNotEqual(self.sizes, Sizes(rich_walk("x", "w")))
        self.assertNotEqual(self.sizes, Sizes.of(rich_walk(), ("find", "x", 2)))
        other = Schema(["a", "b"], rich_schema().fields(), {"u": "a"})
        self.assertNotEqual(self.sizes, Sizes(Walk(other, rich_finds())))
        for value in ODD + [self.sizes.names(), {("find", "x"): 1}]:
            self.assertFalse(self.sizes == value)

    def test_not_iterated_over(self):
        for ask in (list, iter, sorted):
            self.assertRaises(TypeError, ask, self.sizes)


def rich_finds():
    return [("find", "x", "a", "many", ()), ("find", "y", "a", "one", ()), ("find", "w", "a", "many", ())]


class Faults(SizeTest):
    def setUp(self):
        # Object 1 of b has the members 1 and 2 by l; object 1 of a has 1 and 2 by k.
        self.store = rich_store()
        self.sizes = Sizes(rich_walk())

    def test_kept(self):
        self.assertIsNone(self.sizes.fault(self.store, {"x": [1], "y": [], "w": []}))
        self.assertIsNone(self.sizes.fault(store=self.store, roots={"x": [], "y": [2], "w": (3,)}))
        self.assertIsNone(self.sizes.fault(Store(rich_schema()), {"x": [], "y": [], "w": []}))

    def test_finds(self):
        self.assertEqual(self.sizes.fault(self.store, {"x": [1, 2], "y": [], "w": []}), ("find", "x"))
        self.assertEqual(self.sizes.fault(self.store, {"x": [1, 2], "y": [], "w": [2, 1]}), ("find", "w"))
        self.sizes["find", "w"] = 2
        self.assertEqual(self.sizes.fault(self.store, {"x": [1, 2], "y": [], "w": [2, 1]}), ("find", "x"))
        self.sizes["find", "x"] = 3
        self.assertIsNone(self.sizes.fault(self.store, {"x": [1, 2], "y": [], "w": [2, 1]}))

    def test_lists(self):
        roots = {"x": [], "y": [], "w": []}
        self.store["b", 9] = row_b()
        self.store += [("a", number, row_a(f=9)) for number in range(4, 7)]
        self.assertEqual(self.sizes.fault(self.store, roots), ("list", "l", 9))
        self.store += [("a", number, row_a(f=2)) for number in range(7, 9)]
        self.assertEqual(self.sizes.fault(self.store, roots), ("list", "l", 2))
        self.store += [("a", number, row_a(p=8)) for number in range(10, 13)]
        self.assertEqual(self.sizes.fault(self.store, roots), ("list", "k", 8))
        self.assertEqual(self.sizes.fault(self.store, {**roots, "x": [1, 2]}), ("find", "x"))
        self.sizes["list", "k"] = 3
        self.sizes["list", "l"] = 3
        self.assertIsNone(self.sizes.fault(self.store, roots))

    def test_errors_in_their_sequence(self):
        for value in ODD + [rich_walk(), rich_schema()]:
            self.raises(InvalidStore, {"value": value}, self.sizes.fault, value, None)
        for value in ODD + [{"x": [], "y": []}]:
            self.raises(InvalidRoots, {"find": None}, self.sizes.fault, self.store, value)
        self.raises(InvalidRoots, {"find": "y"}, self.sizes.fault, self.store, {"x": [], "y": [1, 2], "w": []})
        self.raises(InvalidRoots, {"find": "w"}, self.sizes.fault, self.store, {"x": [9], "y": [1, 2], "w": [True]})
        other = Store(shop_schema())
        self.raises(InvalidRoots, {"find": "x"}, self.sizes.fault, other, {"x": [1], "y": [], "w": []})
        self.raises(OtherSchema, {}, self.sizes.fault, other, {"x": [], "y": [], "w": []})


if __name__ == "__main__":
    unittest.main()
