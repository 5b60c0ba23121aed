"""The answers for inputs as great as the document lets pass, which are asked many times one behind another."""

import unittest

from fetchwalks.errors import InvalidRows, TooMany
from fetchwalks.schemas import Schema
from fetchwalks.stores import Store
from fetchwalks.walkpairs import are_alike, are_maps, is_lean, is_within, lean, maps, needless
from fetchwalks.walks import Walk

STEP = ("for", "a", "prevs", "b", (
    ("go", "b", "next", "c", ()), ("if", "b", "mark", (("for", "b", "prevs", "d", ()),)),
))


def node_schema():
    return Schema(["node"], {"next": ("node", "node", "prevs", False)}, {"mark": "node"})


def node_walk(body, blocks=(), name="a"):
    return Walk(node_schema(), [("find", name, "node", "many", tuple(body))], blocks)


def tests(many, x="a"):
    return [("if", x, "mark", ())] * many


def goes(many):
    return [("go", "a", "next", "b", ())] * many


class GreatTest(unittest.TestCase):
    def too_many(self, what, limit, ask):
        with self.assertRaises(TooMany) as caught:
            ask()
        self.assertEqual((caught.exception.what, caught.exception.limit), (what, limit))


class Stores(GreatTest):
    def rows(self, first, last):
        return [("box", number, {"full": number % 3 == 0}) for number in range(first, last + 1)]

    def filled(self):
        store = Store(Schema(["box"], {}, {"full": "box"}))
        for first in range(1, 2000, 500):
            store += self.rows(first, first + 499)
        return store

    def test_filled(self):
        store = self.filled()
        self.assertEqual([len(store), store.ids("box"), store.rows()], [2000, list(range(1, 2001)), self.rows(1, 2000)])
        self.assertEqual([store["box", 3], store["box", 2000]], [{"full": True}, {"full": False}])
        self.assertEqual(store, self.filled())

    def test_full(self):
        store = self.filled()
        self.too_many("objects", 2000, lambda: store.__iadd__(self.rows(1999, 2001)))
        self.too_many("objects", 2000, lambda: store.__setitem__(("box", 2001), {"full": True}))
        self.assertEqual(store, self.filled())
        store += [("box", number, {"full": True}) for number in range(1, 501)]
        self.assertEqual([len(store), store["box", 500], store["box", 502]], [2000, {"full": True}, {"full": False}])

    def test_wrong_rows(self):
        store = Store(Schema(["box"], {}, {"full": "box"}))
        for wrong in [("box", 500, {"full": 1}), ("box", True, {"full": True}), ("box", 500, {}), ["box", 500, {"full": True}],
                      ("bag", 500, {"full": True}), ("box", 500, {"full": True, "x": True}), ("box", 0, {"full": True})]:
            with self.assertRaises(InvalidRows) as caught:
                store += self.rows(1, 499) + [wrong]
            self.assertEqual([caught.exception.position, len(store)], [499, 0])

    def test_what_was_passed_can_be_changed_later(self):
        rows = self.rows(1, 500)
        store = Store(Schema(["box"], {}, {"full": "box"}))
        store += rows
        rows[0][2]["full"] = None
        store["box", 2]["full"] = None
        store.rows()[2][2]["full"] = None
        self.assertEqual(store.rows(), self.rows(1, 500))

    def test_many_fields(self):
        fields = {f"f{letter}": ("box", "box", f"l{letter}", False) for letter in "abcdef"}
        store = Store(Schema(["box"], fields))
        for first in range(1, 2000, 500):
            store += [("box", number, {field: 1 for field in fields}) for number in range(first, first + 500)]
        self.assertEqual([store.members(f"l{letter}", 1) for letter in "abcdef"], [list(range(1, 2001))] * 6)
        store += [("box", number, {field: 2 for field in fields}) for number in range(1, 2000, 4)]
        self.assertEqual(store.members("la", 2), list(range(1, 2000, 4)))
        self.assertEqual(len(store.members("lf", 1)), 1500)


class Walks(GreatTest):
    def test_tests(self):
        walk = node_walk(tests(300))
        self.assertEqual([walk.spots(), walk.loops(), len(walk)], [[(0,)], [], 1])
        self.assertEqual(walk.statement((0, 299)), ("if", "a", "mark"))
        self.too_many("statements", 300, lambda: node_walk(tests(301)))

    def test_goes(self):
        walk = node_walk(goes(119))
        self.assertEqual(walk.spots(), [(0,)] + [(0, position) for position in range(119)])
        self.assertEqual([walk.route((0, 118)), walk.kind_of((0, 118)), walk.owner_of((0, 118))], [("a", "next"), "node", (0,)])
        self.too_many("spots", 120, lambda: node_walk(goes(120)))

    def test_calls(self):
        blocks = [("block", "t", "node", "x", tuple(tests(30, "x")))]
        walk = node_walk([("call", "t", "a")] * 10, blocks)
        self.assertEqual(walk.written_out(), node_walk(tests(300)))
        self.assertEqual(walk.statement((0, 299)), ("if", "a", "mark"))
        self.too_many("statements", 300, lambda: node_walk([("call", "t", "a")] * 11, blocks))

    def test_blocks_that_grow(self):
        blocks = [("block", "a", "node", "x", (("go", "x", "next", "y", ()),))]
        blocks += [("block", name, "node", "x", (("call", before, "x"),) * 9) for before, name in zip("abcde", "bcdef")]
        self.too_many("statements", 300, lambda: node_walk([("call", "f", "a")] * 400, blocks))
        self.too_many("spots", 120, lambda: node_walk([("call", "c", "a")] * 3, blocks))
        self.assertEqual(len(node_walk([("call", "c", "a")], blocks)), 82)

    def test_put_together(self):
        half = node_walk(tests(150))
        self.assertEqual(half + half, node_walk(tests(300)))
        self.too_many("statements", 300, lambda: half + node_walk(tests(151)))
        both = half | node_walk(tests(150, "b"), name="b")
        self.assertEqual(both, Walk(node_schema(), [
            ("find", "a", "node", "many", tuple(tests(150))), ("find", "b", "node", "many", tuple(tests(150, "b")))]))
        self.assertEqual([both.spots(), both.statement((1, 149))], [[(0,), (1,)], ("if", "b", "mark")])
        self.too_many("statements", 300, lambda: half | node_walk(tests(151, "b"), name="b"))
        self.too_many("spots", 120, lambda: node_walk(goes(60)) + node_walk(goes(60)))
        self.too_many("spots", 120, lambda: (half | node_walk([], name="b")) | node_walk([("go", "c", "next", "b", ())] * 118, name="c"))
        self.assertEqual(len(node_walk(goes(60)) + node_walk(goes(59))), 120)

    def test_depth_and_loops_put_together(self):
        deep = ()
        for _ in range(12):
            deep = (("if", "a", "mark", deep),)
        loops = ()
        for x, y in zip("dcba", "edcb"):
            loops = (("for", x, "prevs", y, loops),)
        both = node_walk(deep) + node_walk(loops)
        self.assertEqual([len(both.paths()), len(both), len(both.loops())], [17, 5, 4])
        blocks = [("block", "t", "node", "a", deep)]
        self.too_many("depth", 12, lambda: node_walk([("if", "a", "mark", (("call", "t", "a"),))], blocks))
        blocks = [("block", "t", "node", "a", loops)]
        self.too_many("loops", 4, lambda: node_walk([("for", "a", "prevs", "x", (("call", "t", "x"),))], blocks))


class Pairs(GreatTest):
    def setUp(self):
        self.nine, self.eighteen = node_walk([STEP] * 9), node_walk([STEP] * 18)

    def test_written_out_and_plus(self):
        self.assertEqual(self.eighteen.written_out(), self.eighteen)
        self.assertEqual(self.nine + self.nine, self.eighteen)
        self.assertEqual([len(self.eighteen), len(self.eighteen.loops()), len(self.eighteen.paths())], [55, 36, 73])

    def test_needless(self):
        # Each step stands there again, and so does each go that only turns back.
        self.assertEqual(needless(self.eighteen), [path for path in self.eighteen.paths() if len(path) > 1])
        inner = [(0, 0, 0)]
        self.assertEqual(needless(node_walk([STEP])), inner)

    def test_lean(self):
        left = STEP[:4] + (STEP[4][1:],)
        self.assertEqual(lean(self.eighteen), node_walk([left]))
        self.assertEqual([is_lean(lean(self.eighteen)), is_lean(self.eighteen), is_lean(node_walk([STEP]))], [True, False, False])

    def test_alike(self):
        self.assertTrue(are_alike(self.eighteen, self.nine))
        self.assertTrue(is_within(self.nine, self.eighteen))
        more = node_walk([STEP] * 9 + [("for", "a", "prevs", "b", (("for", "b", "prevs", "c", ()),))])
        self.assertEqual([are_alike(more, self.nine), is_within(self.eighteen, more), is_within(more, self.eighteen)], [False, True, False])

    def test_maps(self):
        for one, other in ((self.eighteen, self.nine), (self.nine, self.eighteen)):
            value = maps(one, other)
            wanted = [("list", loop) for loop in one.loops()] + [("object", spot) for spot in one.spots()]
            self.assertEqual(list(value), wanted)
            self.assertTrue(are_maps(one, other, value))
            for key in wanted:
                spot, mapped = value[key]
                self.assertTrue(spot in other)
                self.assertEqual(list(mapped), sorted(mapped))
                spoilt = [(spot, {}), (key[1], mapped) if key[1] not in other else (spot, None), (None, mapped), spot,
                          (spot, {**mapped, (0, 9): (0,)}), (spot, {path: (False,) + mapped[path][1:] for path in mapped})]
                for wrong in spoilt:
                    self.assertFalse(are_maps(one, other, {**value, key: wrong}))
        value = maps(self.nine, self.nine)
        self.assertTrue(are_maps(self.nine, self.eighteen, value))
        self.assertFalse(are_maps(self.eighteen, self.nine, value))


if __name__ == "__main__":
    unittest.main()
