"""Minimal stores of spots and of loops."""

import unittest

from fetchwalks.errors import NoWalk, UnknownSpot
from fetchwalks.minimal import minimal_for_loop, minimal_store
from fetchwalks.schemas import Schema
from fetchwalks.walks import Walk
from samples import ODD, rich_schema, row_a, row_b

NO_SPOTS = ODD + [[0], (True,), (False,), (0, False), (9,), (0, 9), (-1,), ((0,),), (0, [0]), (0, None), "0"]


def find(*body, name="x", kind="a"):
    return ("find", name, kind, "many", body)


def walk_of(*finds, blocks=()):
    return Walk(rich_schema(), finds, blocks)


class Spots(unittest.TestCase):
    def check(self, walk, spot, rows, roots, things):
        store, found_roots, found_things = minimal_store(walk, spot)
        self.assertEqual(store.rows(), rows)
        self.assertEqual(found_roots, roots)
        self.assertEqual(found_things, things)
        self.assertEqual([list(found_roots), list(found_things)], [sorted(roots), sorted(things)])
        self.assertEqual(store.schema, walk.schema)

    def test_find(self):
        walk = walk_of(find(), find(name="b", kind="b"), find(name="c"))
        self.check(walk, (0,), [("a", 1, row_a())], {"b": [], "c": [], "x": [1]}, {(0,): ("a", 1)})
        self.check(walk, (1,), [("b", 1, row_b())], {"b": [1], "c": [], "x": []}, {(1,): ("b", 1)})

    def test_go(self):
        walk = walk_of(find(("go", "x", "f", "y", (("go", "x", "p", "z", ()),))))
        rows = [("a", 1, row_a(f=1, p=2)), ("a", 2, row_a()), ("b", 1, row_b())]
        self.check(walk, (0, 0, 0), rows, {"x": [1]}, {(0,): ("a", 1), (0, 0): ("b", 1), (0, 0, 0): ("a", 2)})

    def test_a_field_that_leads_to_one_already(self):
        walk = walk_of(find(("go", "x", "p", "y", (("go", "x", "p", "z", ()),))))
        things = {(0,): ("a", 1), (0, 0): ("a", 2), (0, 0, 0): ("a", 2)}
        self.check(walk, (0, 0, 0), [("a", 1, row_a(p=2)), ("a", 2, row_a())], {"x": [1]}, things)

    def test_for(self):
        walk = walk_of(find(("for", "x", "k", "y", (("for", "x", "k", "z", ()),))))
        things = {(0,): ("a", 1), (0, 0): ("a", 2), (0, 0, 0): ("a", 3)}
        rows = [("a", 1, row_a()), ("a", 2, row_a(p=1)), ("a", 3, row_a(p=1))]
        self.check(walk, (0, 0, 0), rows, {"x": [1]}, things)

    def test_a_single_list_has_one_member(self):
        walk = walk_of(find(("for", "x", "n", "y", (("for", "x", "n", "z", ()),))))
        things = {(0,): ("a", 1), (0, 0): ("a", 2), (0, 0, 0): ("a", 2)}
        self.check(walk, (0, 0, 0), [("a", 1, row_a()), ("a", 2, row_a(q=1))], {"x": [1]}, things)

    def test_back_by_a_field(self):
        walk = walk_of(find(("for", "b", "l", "y", (("go", "y", "f", "z", ()),)), name="b", kind="b"))
        things = {(0,): ("b", 1), (0, 0): ("a", 1), (0, 0, 0): ("b", 1)}
        self.check(walk, (0, 0, 0), [("a", 1, row_a(f=1)), ("b", 1, row_b())], {"b": [1]}, things)

    def test_back_by_a_list_that_is_not_single(self):
        walk = walk_of(find(("go", "x", "f", "y", (("for", "y", "l", "z", ()),))))
        things = {(0,): ("a", 1), (0, 0): ("b", 1), (0, 0, 0): ("a", 2)}
        rows = [("a", 1, row_a(f=1)), ("a", 2, row_a(f=1)), ("b", 1, row_b())]
        self.check(walk, (0, 0, 0), rows, {"x": [1]}, things)

    def test_back_by_a_single_list(self):
        walk = walk_of(find(("go", "x", "g", "y", (("for", "y", "m", "z", (("if", "z", "v", (("go", "z", "g", "w", ()),)),)),))))
        things = {(0,): ("a", 1), (0, 0): ("b", 1), (0, 0, 0): ("a", 1), (0, 0, 0, 0, 0): ("b", 1)}
        self.check(walk, (0, 0, 0, 0, 0), [("a", 1, row_a(g=1, v=True)), ("b", 1, row_b())], {"x": [1]}, things)

    def test_a_single_field_without_a_list(self):
        walk = walk_of(find(("go", "x", "h", "y", (("go", "y", "i", "z", (("go", "z", "h", "w", ()),)),))))
        things = {(0,): ("a", 1), (0, 0): ("b", 1), (0, 0, 0): ("a", 2), (0, 0, 0, 0): ("b", 2)}
        rows = [("a", 1, row_a(h=1)), ("a", 2, row_a(h=2)), ("b", 1, row_b(i=2)), ("b", 2, row_b())]
        self.check(walk, (0, 0, 0, 0), rows, {"x": [1]}, things)

    def test_a_field_is_led_along_by_a_member_of_itself(self):
        walk = walk_of(find(("for", "x", "k", "y", (("go", "x", "p", "z", (("go", "y", "p", "w", ()),)),))))
        things = {(0,): ("a", 1), (0, 0): ("a", 2), (0, 0, 0): ("a", 3), (0, 0, 0, 0): ("a", 1)}
        rows = [("a", 1, row_a(p=3)), ("a", 2, row_a(p=1)), ("a", 3, row_a())]
        self.check(walk, (0, 0, 0, 0), rows, {"x": [1]}, things)

    def test_ifs_on_the_way(self):
        walk = walk_of(find(("if", "x", "u", (("go", "x", "f", "y", (("if", "x", "v", (("if", "y", "w", (("for", "y", "l", "z", ()),)),)),)),)), ("if", "x", "v", ())))
        spot = (0, 0, 0, 0, 0, 0)
        rows = [("a", 1, row_a(f=1, u=True, v=True)), ("a", 2, row_a(f=1)), ("b", 1, row_b(w=True))]
        self.check(walk, spot, rows, {"x": [1]}, {(0,): ("a", 1), (0, 0, 0): ("b", 1), spot: ("a", 2)})
        rows = [("a", 1, row_a(f=1, u=True)), ("b", 1, row_b())]
        self.check(walk, (0, 0, 0), rows, {"x": [1]}, {(0,): ("a", 1), (0, 0, 0): ("b", 1)})

    def test_the_flag_of_one_object_alone(self):
        body = ("for", "x", "k", "y", (("if", "y", "u", (("for", "y", "k", "z", (("if", "z", "v", ()), ("if", "z", "u", (("go", "z", "f", "w", ()),)))),)),))
        store, roots, things = minimal_store(walk_of(find(body)), (0, 0, 0, 0, 1, 0))
        self.assertEqual([store["a", number]["u"] for number in (1, 2, 3)], [False, True, True])
        self.assertEqual([store["a", number]["v"] for number in (1, 2, 3)], [False, False, False])
        self.assertEqual([roots, things[0, 0, 0, 0]], [{"x": [1]}, ("a", 3)])

    def test_what_stands_ahead_and_behind_makes_nothing(self):
        walk = walk_of(find(("if", "x", "u", ()), ("go", "x", "f", "y", (("if", "y", "w", ()), ("go", "y", "i", "z", ()), ("if", "x", "v", ())))))
        rows = [("a", 1, row_a(f=1)), ("a", 2, row_a()), ("b", 1, row_b(i=2))]
        self.check(walk, (0, 1, 1), rows, {"x": [1]}, {(0,): ("a", 1), (0, 1): ("b", 1), (0, 1, 1): ("a", 2)})

    def test_blocks(self):
        blocks = [("block", "t", "b", "x", (("if", "x", "w", (("for", "x", "m", "y", ()),)),))]
        walk = walk_of(find(("go", "x", "f", "y", (("call", "t", "y"),))), blocks=blocks)
        rows = [("a", 1, row_a(f=1)), ("a", 2, row_a(g=1)), ("b", 1, row_b(w=True))]
        things = {(0,): ("a", 1), (0, 0): ("b", 1), (0, 0, 0, 0): ("a", 2)}
        self.check(walk, (0, 0, 0, 0), rows, {"x": [1]}, things)

    def test_a_field_with_a_single_list_is_taken_back(self):
        schema = Schema(["a"], {"q": ("a", "a", "n", True)})
        body = (("for", "x", "n", "y", (("go", "y", "q", "z", (("for", "z", "n", "w", ()),)),)),)
        store, roots, things = minimal_store(Walk(schema, [("find", "x", "a", "one", body)]), (0, 0, 0, 0))
        self.assertEqual(store.rows(), [("a", 1, {"q": None}), ("a", 2, {"q": 1})])
        self.assertEqual(list(things.values()), [("a", 1), ("a", 2), ("a", 1), ("a", 2)])

    def test_wrong_values(self):
        walk = walk_of(find(("if", "x", "u", (("go", "x", "f", "y", ()),))))
        for value in NO_SPOTS + [(0, 0), [0, 0, 0]]:
            with self.assertRaises(UnknownSpot) as caught:
                minimal_store(walk, value)
            self.assertIs(caught.exception.value, value)
        for value in ODD + [Walk]:
            for ask in (minimal_store, minimal_for_loop):
                with self.assertRaises(NoWalk) as caught:
                    ask(value, None)
                self.assertIs(caught.exception.value, value)

    def test_what_is_returned_is_new(self):
        walk = walk_of(find())
        store, roots, things = minimal_store(walk, (0,))
        store["a", 5] = row_a()
        roots["x"].append(5)
        things.clear()
        self.check(walk, (0,), [("a", 1, row_a())], {"x": [1]}, {(0,): ("a", 1)})

    def test_by_name(self):
        walk = walk_of(find(("for", "x", "k", "y", ())))
        self.assertEqual(minimal_store(spot=(0,), walk=walk), minimal_store(walk, (0,)))
        self.assertEqual(minimal_for_loop(loop=(0, 0), walk=walk), minimal_for_loop(walk, (0, 0)))


class Loops(unittest.TestCase):
    def test_without_an_object_for_the_for(self):
        walk = walk_of(find(("go", "x", "f", "y", (("if", "x", "u", (("for", "y", "l", "z", ()),)),))), find(name="c"))
        store, roots, things = minimal_for_loop(walk, (0, 0, 0, 0))
        self.assertEqual(store.rows(), [("a", 1, row_a(f=1, u=True)), ("b", 1, row_b())])
        self.assertEqual([roots, list(roots)], [{"c": [], "x": [1]}, ["c", "x"]])
        self.assertEqual(things, {(0,): ("a", 1), (0, 0): ("b", 1)})

    def test_loops_on_the_way(self):
        walk = walk_of(find(("for", "x", "k", "y", (("for", "x", "n", "z", (("for", "x", "k", "w", ()),)),))))
        store, roots, things = minimal_for_loop(walk, (0, 0, 0, 0))
        self.assertEqual(store.rows(), [("a", 1, row_a()), ("a", 2, row_a(p=1)), ("a", 3, row_a(q=1))])
        self.assertEqual(things, {(0,): ("a", 1), (0, 0): ("a", 2), (0, 0, 0): ("a", 3)})

    def test_wrong_values(self):
        walk = walk_of(find(("if", "x", "u", (("for", "x", "k", "y", (("go", "y", "f", "z", ()),)),))))
        self.assertEqual(len(minimal_for_loop(walk, (0, 0, 0))[0]), 1)
        for value in NO_SPOTS + [(0,), (0, 0), (0, 0, 0, 0), [0, 0, 0], (0, 0, False)]:
            with self.assertRaises(UnknownSpot) as caught:
                minimal_for_loop(walk, value)
            self.assertIs(caught.exception.value, value)


if __name__ == "__main__":
    unittest.main()
