"""Runs: what is touched and looped, in which sequence, and which roots are accepted."""

import unittest

from fetchwalks.errors import InvalidRoots, InvalidStore, NoWalk, OtherSchema
from fetchwalks.runs import looped_lists, loops_of, touched, touches
from fetchwalks.schemas import Schema
from fetchwalks.stores import Store
from fetchwalks.walks import Walk
from samples import ODD, rich_schema, rich_store, row_a, row_b, shop_schema

ASKS = [
    lambda walk, store, roots: list(touches(walk, store, roots)),
    lambda walk, store, roots: list(loops_of(walk, store, roots)),
    lambda walk, store, roots: next(touches(walk, store, roots)),
    lambda walk, store, roots: next(loops_of(walk, store, roots)),
    touched,
    looped_lists,
]


def find(*body, name="x", kind="a", word="many"):
    return ("find", name, kind, word, body)


def walk_of(*finds, blocks=()):
    return Walk(rich_schema(), finds, blocks)


class Sequence(unittest.TestCase):
    def setUp(self):
        self.store = rich_store()

    def run_of(self, walk, **roots):
        return list(touches(walk, self.store, roots)), list(loops_of(walk, self.store, roots))

    def test_finds_alone(self):
        walk = walk_of(find(), find(name="b", kind="b", word="one"))
        self.assertEqual(self.run_of(walk, x=[3, 1], b=[2]), ([((0,), 3), ((0,), 1), ((1,), 2)], []))
        self.assertEqual(self.run_of(walk, x=[], b=[2]), ([((1,), 2)], []))
        self.assertEqual(self.run_of(walk, b=(), x=()), ([], []))
        self.assertEqual(self.run_of(walk, b=(1,), x=(1, 2, 3))[0], [((0,), 1), ((0,), 2), ((0,), 3), ((1,), 1)])

    def test_goes(self):
        walk = walk_of(find(("go", "x", "g", "y", (("go", "y", "i", "z", ()),))))
        wanted = [((0,), 2), ((0,), 1), ((0, 0), 1), ((0, 0, 0), 3), ((0,), 3), ((0, 0), 2)]
        self.assertEqual(self.run_of(walk, x=[2, 1, 3]), (wanted, []))

    def test_loops(self):
        walk = walk_of(find(("go", "x", "f", "y", (("for", "y", "l", "z", (("for", "z", "k", "v", ()),)),))))
        touch = [((0,), 2), ((0, 0), 1), ((0, 0, 0), 1), ((0, 0, 0, 0), 1), ((0, 0, 0, 0), 2), ((0, 0, 0), 2)]
        loops = [((0, 0, 0), 1), ((0, 0, 0, 0), 1), ((0, 0, 0, 0), 2)]
        self.assertEqual(self.run_of(walk, x=[2]), (touch, loops))

    def test_members_come_in_sequence(self):
        self.store += [("a", number, row_a(f=2)) for number in (30, 4, 12)]
        walk = walk_of(find(("for", "b", "l", "y", ()), name="b", kind="b"))
        touch = [((0,), 2)] + [((0, 0), number) for number in (3, 4, 12, 30)]
        self.assertEqual(self.run_of(walk, b=[2]), (touch, [((0, 0), 2)]))

    def test_an_empty_list_is_looped(self):
        walk = walk_of(find(("for", "x", "k", "y", (("go", "y", "f", "z", ()),))))
        self.assertEqual(self.run_of(walk, x=[2, 3]), ([((0,), 2), ((0,), 3)], [((0, 0), 2), ((0, 0), 3)]))

    def test_ifs(self):
        walk = walk_of(find(("if", "x", "u", (("if", "x", "v", (("go", "x", "f", "y", ()),)), ("go", "x", "g", "y", ()))), ("if", "x", "v", (("for", "x", "n", "y", ()),))))
        self.assertEqual(self.run_of(walk, x=[1, 2, 3]), ([((0,), 1), ((0, 0, 1), 1), ((0,), 2), ((0,), 3)], [((0, 1, 0), 3)]))

    def test_an_if_about_a_variable_further_out(self):
        body = ("for", "b", "l", "y", (("for", "b", "l", "z", (("if", "y", "u", (("go", "z", "q", "v", ()),)),)),))
        walk = walk_of(find(body, name="b", kind="b"))
        touch = [((0,), 1), ((0, 0), 1), ((0, 0, 0), 1), ((0, 0, 0), 2), ((0, 0, 0, 0, 0), 1), ((0, 0), 2), ((0, 0, 0), 1), ((0, 0, 0), 2)]
        self.assertEqual(self.run_of(walk, b=[1]), (touch, [((0, 0), 1), ((0, 0, 0), 1), ((0, 0, 0), 1)]))

    def test_blocks(self):
        blocks = [("block", "t", "a", "x", (("go", "x", "q", "y", ()), ("for", "x", "k", "y", ())))]
        walk = walk_of(find(("go", "x", "p", "y", (("call", "t", "y"),)), ("call", "t", "x")), blocks=blocks)
        touch = [((0,), 2), ((0, 0), 1), ((0, 0, 1), 1), ((0, 0, 1), 2), ((0, 1), 1)]
        self.assertEqual(self.run_of(walk, x=[2]), (touch, [((0, 0, 1), 1), ((0, 2), 2)]))

    def test_an_object_that_is_its_own_target(self):
        self.store["a", 9] = row_a(p=9, q=9)
        walk = walk_of(find(("go", "x", "p", "y", (("for", "y", "n", "z", ()),)), word="one"))
        self.assertEqual(self.run_of(walk, x=[9]), ([((0,), 9), ((0, 0), 9), ((0, 0, 0), 9)], [((0, 0, 0), 9)]))

    def test_the_store_and_the_roots_stay(self):
        roots = {"x": [2, 1]}
        list(touches(walk_of(find(("go", "x", "f", "y", ()))), self.store, roots))
        self.assertEqual((self.store, roots), (rich_store(), {"x": [2, 1]}))

    def test_by_name(self):
        walk = walk_of(find())
        self.assertEqual(list(touches(roots={"x": [1]}, store=self.store, walk=walk)), [((0,), 1)])
        self.assertEqual(list(loops_of(roots={"x": [1]}, store=self.store, walk=walk)), [])
        self.assertEqual(touched(roots={"x": [1]}, store=self.store, walk=walk), [("a", 1)])
        self.assertEqual(looped_lists(roots={"x": [1]}, store=self.store, walk=walk), [])


class Sets(unittest.TestCase):
    def test_sorted_and_each_once(self):
        store = rich_store()
        loop = ("for", "y", "l", "z", (("for", "z", "k", "w", ()),))
        walk = walk_of(find(("go", "x", "f", "y", (loop, loop))), find(("go", "v", "q", "x", ()), name="v", word="one"))
        roots = {"x": [2, 1], "v": [2]}
        self.assertEqual(touched(walk, store, roots), [("a", 1), ("a", 2), ("b", 1)])
        self.assertEqual(looped_lists(walk, store, roots), [("k", 1), ("k", 2), ("l", 1)])
        roots = {"x": [], "v": []}
        self.assertEqual([touched(walk, store, roots), looped_lists(walk, store, roots)], [[], []])

    def test_sorted_by_numbers(self):
        store = rich_store()
        store += [("a", number, row_a()) for number in (10, 9, 100)]
        roots = {"x": [100, 9, 10, 1]}
        walk = walk_of(find(("for", "x", "n", "y", ()), ("for", "x", "k", "y", ())))
        self.assertEqual(touched(walk, store, roots), [("a", number) for number in (1, 2, 9, 10, 100)])
        wanted = [(name, number) for name in ("k", "n") for number in (1, 9, 10, 100)]
        self.assertEqual(looped_lists(walk, store, roots), wanted)


class Generators(unittest.TestCase):
    def setUp(self):
        self.store = rich_store()
        self.walk = walk_of(find(("go", "x", "f", "y", (("for", "y", "l", "z", ()),))))

    def test_given_up(self):
        started = touches(self.walk, self.store, {"x": [1]})
        self.assertEqual(next(started), ((0,), 1))
        started.close()
        self.assertEqual(len(list(touches(self.walk, self.store, {"x": [1]}))), 4)

    def test_two_by_turns(self):
        one, other = touches(self.walk, self.store, {"x": [1]}), touches(self.walk, self.store, {"x": [3]})
        loops = loops_of(self.walk, self.store, {"x": [2]})
        turns = [next(one), next(other), next(one), next(loops), next(other), next(one), next(other), next(one)]
        wanted = [((0,), 1), ((0,), 3), ((0, 0), 1), ((0, 0, 0), 1), ((0, 0), 2), ((0, 0, 0), 1), ((0, 0, 0), 3), ((0, 0, 0), 2)]
        self.assertEqual(turns, wanted)
        for done in (one, other, loops):
            self.assertIsNone(next(done, None))

    def test_they_are_iterators(self):
        for done in (touches(self.walk, self.store, {"x": [1]}), loops_of(self.walk, self.store, {"x": [1]})):
            self.assertIs(iter(done), done)

    def test_a_long_run(self):
        store = Store(rich_schema())
        store += [("b", 1, row_b())] + [("a", number, row_a(f=1)) for number in range(1, 151)]
        walk = walk_of(find(("for", "b", "l", "y", (("for", "b", "l", "z", ()),)), name="b", kind="b"))
        self.assertEqual(len(list(touches(walk, store, {"b": [1]}))), 1 + 150 + 150 * 150)
        self.assertEqual(len(touched(walk, store, {"b": [1]})), 151)


class Errors(unittest.TestCase):
    def setUp(self):
        self.store = rich_store()
        self.walk = walk_of(find(name="y"), find(name="x", word="one"), find(name="b", kind="b"))

    def raises(self, error, attributes, *arguments):
        for ask in ASKS:
            with self.assertRaises(error) as caught:
                ask(*arguments)
            self.assertEqual(vars(caught.exception), attributes)

    def wrong(self, name, roots):
        self.raises(InvalidRoots, {"find": name}, self.walk, self.store, roots)

    def test_no_walk(self):
        for value in ODD + [Walk, self.store]:
            self.raises(NoWalk, {"value": value}, value, None, None)

    def test_no_store(self):
        for value in ODD + [Store, self.walk]:
            self.raises(InvalidStore, {"value": value}, self.walk, value, None)

    def test_no_dict_with_exactly_the_finds(self):
        right = {"y": [], "x": [], "b": []}
        for value in ODD + [{}, {"x": []}, {**right, "z": []}, {**right, 1: []}, {"y": [], "x": [], "c": []}, list(right), [[], [], []]]:
            self.wrong(None, value)
        self.wrong(None, {"y": [], "x": [], None: None})

    def test_the_first_name_sorted(self):
        self.wrong("b", {"y": None, "x": None, "b": None})
        self.wrong("x", {"y": None, "x": None, "b": []})
        self.wrong("y", {"y": None, "x": [], "b": []})

    def test_values_that_are_no_roots(self):
        wrong = [None, True, 1, "1", "", {}, {1: 1}, b"", object(), [None], [True], [1, True], ["1"], [[1]], [{}], [(1,)], [0], [-1]]
        wrong += [[4], [1, 4], [1, 1], [1, 2, 1], (2, 2), [10 ** 10], [1, None]]
        for value in wrong:
            self.wrong("y", {"y": value, "x": [], "b": []})
            self.wrong("x", {"y": None, "x": value, "b": [1]})
        # Object 3 is there, but of another kind.
        self.wrong("b", {"y": [3], "x": [], "b": [3]})

    def test_one(self):
        self.wrong("x", {"y": [1, 2], "x": [1, 2], "b": []})
        self.assertEqual(touched(self.walk, self.store, {"y": [1, 2], "x": [3], "b": (1,)}), [("a", 1), ("a", 2), ("a", 3), ("b", 1)])

    def test_other_schemas_come_last(self):
        other = Store(shop_schema())
        self.raises(OtherSchema, {}, self.walk, other, {"y": [], "x": (), "b": []})
        self.raises(InvalidRoots, {"find": None}, self.walk, other, None)
        self.raises(InvalidRoots, {"find": "x"}, self.walk, other, {"y": [1], "x": [1], "b": []})

    def test_another_schema_with_the_same_objects(self):
        other = Store(Schema(["a", "b"], {}))
        other += [("a", 1, {}), ("b", 1, {})]
        self.raises(OtherSchema, {}, self.walk, other, {"y": [1], "x": [1], "b": [1]})
        self.raises(InvalidRoots, {"find": "b"}, self.walk, other, {"y": [1], "x": [1], "b": [2]})


if __name__ == "__main__":
    unittest.main()
