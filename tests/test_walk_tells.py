"""Walks: what they tell, written out, and how they are put together."""

import unittest

from fetchwalks.errors import NameTaken, NoWalk, OtherFinds, OtherSchema, TooMany, UnknownPath, UnknownSpot
from fetchwalks.schemas import Schema
from fetchwalks.walks import Walk
from samples import ODD, rich_schema, shop_schema

# Written like paths or spots of the walks below, but none of them.
NO_PATHS = ODD + [[0], [0, 0], (True,), (False,), (0, False), (False, 0), (0, True), (-1,), (0, -1), (9,), (0, 9), "0"]
NO_PATHS += [(0, 0, 0, 0, 0, 0, 0), ((0,),), (0, (0,)), (0, [0]), (0, {}), (0, None), (0, "0"), range(1), (0, 10 ** 400)]


def plain_walk():
    body = (
        ("go", "x", "f", "y", (
            ("for", "y", "l", "z", (("if", "x", "u", (("go", "z", "q", "w", ()),)),)),
            ("if", "y", "w", (("for", "x", "n", "z", ()),)),
        )),
        ("if", "x", "v", ()),
    )
    return Walk(rich_schema(), [("find", "x", "a", "many", body), ("find", "b", "b", "one", (("go", "b", "i", "x", ()),))])


def called_walk():
    blocks = [
        ("block", "low", "a", "x", (("go", "x", "p", "y", (("if", "y", "u", ()),)), ("if", "x", "v", ()))),
        ("block", "top", "b", "x", (("for", "x", "l", "y", (("call", "low", "y"), ("for", "y", "k", "z", (("if", "y", "u", (("call", "low", "z"),)),)))),)),
        ("block", "unused", "b", "x", (("go", "x", "i", "y", ()),)),
    ]
    finds = [("find", "y", "a", "many", (
        ("call", "low", "y"),
        ("go", "y", "f", "x", (("call", "top", "x"), ("if", "x", "w", ()))),
        ("call", "low", "y"),
    ))]
    return Walk(rich_schema(), finds, blocks)


class WalkTest(unittest.TestCase):
    def raises(self, error, attributes, ask, *arguments):
        with self.assertRaises(error) as caught:
            ask(*arguments)
        self.assertEqual(vars(caught.exception), attributes)


class Told(WalkTest):
    def setUp(self):
        self.walk = plain_walk()

    def test_schema(self):
        self.assertEqual(self.walk.schema, rich_schema())

    def test_finds(self):
        self.assertEqual(self.walk.finds(), [("x", "a", "many"), ("b", "b", "one")])
        self.assertEqual(called_walk().finds(), [("y", "a", "many")])

    def test_spots(self):
        wanted = [(0,), (0, 0), (0, 0, 0), (0, 0, 0, 0, 0), (0, 0, 1, 0), (1,), (1, 0)]
        self.assertEqual(self.walk.spots(), wanted)
        self.assertEqual(len(self.walk), 7)

    def test_spots_are_sorted_by_numbers(self):
        walk = Walk(rich_schema(), [("find", "x", "a", "one", (("go", "x", "p", "y", ()),) * 12)])
        self.assertEqual(walk.spots(), sorted(walk.spots()))
        self.assertEqual(walk.spots()[-1], (0, 11))

    def test_loops(self):
        self.assertEqual(self.walk.loops(), [(0, 0, 0), (0, 0, 1, 0)])
        self.assertEqual(Walk(rich_schema(), [("find", "x", "a", "one", ())]).loops(), [])

    def test_kinds(self):
        self.assertEqual([self.walk.kind_of(spot) for spot in self.walk.spots()], ["a", "b", "a", "a", "a", "b", "a"])
        self.assertEqual(self.walk.kind_of(spot=(0, 0)), "b")

    def test_routes(self):
        routes = [self.walk.route(spot) for spot in self.walk.spots()]
        wanted = [("x",), ("x", "f"), ("x", "f", "l"), ("x", "f", "l", "q"), ("x", "n"), ("b",), ("b", "i")]
        self.assertEqual(routes, wanted)
        self.assertEqual(self.walk.route(spot=(1, 0)), ("b", "i"))

    def test_owners(self):
        owners = [self.walk.owner_of(spot) for spot in self.walk.spots()]
        self.assertEqual(owners, [None, (0,), (0, 0), (0, 0, 0), (0,), None, (1,)])
        self.assertEqual(self.walk.owner_of(spot=(0, 0)), (0,))

    def test_statements(self):
        self.assertEqual(self.walk.statement((0,)), ("find", "x", "a", "many"))
        self.assertEqual(self.walk.statement((1,)), ("find", "b", "b", "one"))
        self.assertEqual(self.walk.statement((0, 0)), ("go", "x", "f", "y"))
        self.assertEqual(self.walk.statement((0, 0, 0)), ("for", "y", "l", "z"))
        self.assertEqual(self.walk.statement((0, 0, 0, 0)), ("if", "x", "u"))
        self.assertEqual(self.walk.statement(path=(0, 1)), ("if", "x", "v"))

    def test_values_that_are_no_spots(self):
        for value in NO_PATHS + [(0, 1), (0, 0, 1), (0, 0, 0, 0), list(self.walk.spots()[1])]:
            for ask in (self.walk.kind_of, self.walk.route, self.walk.owner_of):
                self.raises(UnknownSpot, {"value": value}, ask, value)
            self.assertFalse(value in self.walk)

    def test_values_that_are_no_paths(self):
        for value in NO_PATHS + [[0, 1], (0, 1, 0), (2,)]:
            self.raises(UnknownPath, {"value": value}, self.walk.statement, value)
            self.raises(UnknownPath, {"value": value}, self.walk.without, value)

    def test_in(self):
        for spot in self.walk.spots():
            self.assertTrue(spot in self.walk)
        self.assertFalse(self.walk in self.walk)

    def test_what_is_returned_is_new(self):
        self.walk.finds().clear()
        self.walk.spots().clear()
        self.walk.loops().clear()
        self.assertEqual([len(self.walk.finds()), len(self.walk.spots()), len(self.walk.loops())], [2, 7, 2])

    def test_what_was_passed_can_be_changed_later(self):
        finds, blocks = [("find", "x", "a", "one", ())], [("block", "x", "a", "x", ())]
        walk = Walk(rich_schema(), finds, blocks)
        finds.append(finds[0])
        blocks.clear()
        self.assertEqual(walk, Walk(rich_schema(), [("find", "x", "a", "one", ())], [("block", "x", "a", "x", ())]))
        self.assertEqual(walk.finds(), [("x", "a", "one")])

    def test_by_name(self):
        walk = Walk(blocks=(), finds=[("find", "x", "a", "one", ())], schema=rich_schema())
        self.assertEqual(len(walk), 1)


class WrittenOut(WalkTest):
    def setUp(self):
        self.walk = called_walk()

    def test_a_walk_without_blocks_is_as_it_is(self):
        self.assertEqual(plain_walk().written_out(), plain_walk())

    def test_blocks_that_nobody_calls_are_left_out(self):
        finds = [("find", "x", "a", "one", (("go", "x", "f", "y", ()),))]
        walk = Walk(rich_schema(), finds, [("block", "t", "a", "x", (("if", "x", "u", ()),))])
        self.assertEqual(walk.written_out(), Walk(rich_schema(), finds))
        self.assertNotEqual(walk.written_out(), walk)

    def test_a_call_takes_as_many_positions_as_its_block(self):
        words = [(path, self.walk.statement(path)[0]) for path in self.walk.paths()]
        self.assertEqual(words, [
            ((0,), "find"),
            ((0, 0), "go"), ((0, 0, 0), "if"), ((0, 1), "if"),
            ((0, 2), "go"),
            ((0, 2, 0), "for"),
            ((0, 2, 0, 0), "go"), ((0, 2, 0, 0, 0), "if"), ((0, 2, 0, 1), "if"),
            ((0, 2, 0, 2), "for"), ((0, 2, 0, 2, 0), "if"),
            ((0, 2, 0, 2, 0, 0), "go"), ((0, 2, 0, 2, 0, 0, 0), "if"), ((0, 2, 0, 2, 0, 1), "if"),
            ((0, 2, 1), "if"),
            ((0, 3), "go"), ((0, 3, 0), "if"), ((0, 4), "if"),
        ])

    def test_spots_and_routes_are_those_of_the_walk_written_out(self):
        out = self.walk.written_out()
        self.assertEqual([out.spots(), out.loops(), len(out)], [self.walk.spots(), self.walk.loops(), len(self.walk)])
        for spot in out.spots():
            self.assertEqual([out.route(spot), out.owner_of(spot)], [self.walk.route(spot), self.walk.owner_of(spot)])
        self.assertEqual(self.walk.route((0, 2, 0, 2, 0, 0)), ("y", "f", "l", "k", "p"))
        self.assertEqual(self.walk.owner_of((0, 2, 0, 2, 0, 0)), (0, 2, 0, 2))
        self.assertEqual(self.walk.owner_of((0, 3)), (0,))

    def test_the_blocks_variable_is_x_and_those_of_the_caller_stay(self):
        self.assertEqual(self.walk.statement((0, 0))[:3], ("go", "y", "p"))
        self.assertEqual(self.walk.statement((0, 1)), ("if", "y", "v"))
        self.assertEqual(self.walk.statement((0, 2)), ("go", "y", "f", "x"))
        self.assertEqual(self.walk.statement((0, 2, 0))[:3], ("for", "x", "l"))
        self.assertEqual(self.walk.statement((0, 2, 1)), ("if", "x", "w"))

    def test_names_of_variables_lead_to_their_owners(self):
        for path in self.walk.paths():
            head = self.walk.statement(path)
            if head[0] in ("go", "for"):
                owner = self.walk.statement(self.walk.owner_of(path))
                self.assertEqual(head[1], owner[1] if owner[0] == "find" else owner[3])

    def test_new_variables_are_not_in_sight(self):
        for path in self.walk.spots():
            ahead = [self.walk.statement(path[:length]) for length in range(1, len(path) + 1)]
            names = [head[1] if head[0] == "find" else head[3] for head in ahead if head[0] != "if"]
            self.assertEqual(len(set(names)), len(names))

    def test_it_is_a_walk_that_can_be_written_out_again(self):
        out = self.walk.written_out()
        self.assertEqual(out.written_out(), out)
        self.assertEqual(self.walk.written_out(), out)
        self.assertEqual([out.statement(path) for path in out.paths()], [self.walk.statement(path) for path in out.paths()])

    def test_many_variables_in_sight(self):
        body = (("call", "t", "l"),)
        for name in "kjihgfedcb":
            body = (("go", name, "p", chr(ord(name) + 1), body),)
        finds = [("find", "b", "a", "one", body)]
        walk = Walk(rich_schema(), finds, [("block", "t", "a", "b", (("go", "b", "q", "c", (("if", "b", "u", ()), )),))])
        self.assertEqual(walk.statement((0,) * 13), ("if", "l", "u"))
        self.assertNotIn(walk.statement((0,) * 12)[3], "bcdefghijkl")


class Without(WalkTest):
    def test_a_statement_and_its_body(self):
        walk = plain_walk()
        second = ("find", "b", "b", "one", (("go", "b", "i", "x", ()),))
        rest = Walk(rich_schema(), [("find", "x", "a", "many", (("if", "x", "v", ()),)), second])
        self.assertEqual(walk.without((0, 0)), rest)
        self.assertEqual(walk.without(path=(1, 0)).spots(), [(0,), (0, 0), (0, 0, 0), (0, 0, 0, 0, 0), (0, 0, 1, 0), (1,)])
        self.assertEqual(walk.without((0, 0, 0)).route((0, 0, 0, 0)), ("x", "n"))
        self.assertEqual(walk.without((0, 1)).spots(), walk.spots())
        self.assertEqual(walk.without((0, 0, 0, 0, 0)).statement((0, 0, 0, 0)), ("if", "x", "u"))
        self.assertEqual(walk, plain_walk())

    def test_it_is_written_out(self):
        walk = called_walk()
        self.assertEqual(walk.without((0, 1)), walk.written_out().without((0, 1)))
        self.assertEqual(walk.without((0, 2, 0)).spots(), [(0,), (0, 0), (0, 2), (0, 3)])

    def test_finds_are_never_left_out(self):
        for path in [(0,), (1,)]:
            self.raises(UnknownPath, {"value": path}, plain_walk().without, path)


class Together(WalkTest):
    def test_finds_of_both(self):
        one, other = called_walk(), Walk(rich_schema(), [("find", "x", "b", "one", (("go", "x", "i", "y", ()),))])
        both = one | other
        self.assertEqual(both.finds(), [("y", "a", "many"), ("x", "b", "one")])
        self.assertEqual(both.written_out(), both)
        self.assertEqual(len(both), len(one) + 2)
        self.assertEqual(both.route((1, 0)), ("x", "i"))
        self.assertEqual([both.statement(path) for path in one.paths()], [one.statement(path) for path in one.paths()])
        self.assertEqual((other | one).finds(), [("x", "b", "one"), ("y", "a", "many")])
        self.assertEqual(one, called_walk())
        self.assertEqual(len(other), 2)

    def test_bodies_of_both(self):
        one = called_walk()
        other = Walk(rich_schema(), [("find", "y", "a", "many", (("call", "t", "y"),))], [("block", "t", "a", "x", (("go", "x", "g", "y", ()),))])
        both = one + other
        self.assertEqual(both.finds(), one.finds())
        self.assertEqual(both.written_out(), both)
        self.assertEqual(both.spots(), one.spots() + [(0, 5)])
        self.assertEqual(both.statement((0, 5))[:3], ("go", "y", "g"))
        self.assertEqual((other + one).statement((0, 0))[:3], ("go", "y", "g"))
        self.assertEqual((other + one).statement((0, 3)), ("go", "y", "f", "x"))
        self.assertEqual([one, len(other)], [called_walk(), 2])

    def test_bodies_of_several_finds(self):
        walk = plain_walk()
        both = walk + walk
        self.assertEqual(both.finds(), walk.finds())
        self.assertEqual(both.without((0, 2)).without((0, 2)).without((1, 1)), walk)

    def test_no_walk(self):
        for value in ODD + [Walk, rich_schema(), 1]:
            self.raises(NoWalk, {"value": value}, lambda: plain_walk() | value)
            self.raises(NoWalk, {"value": value}, lambda: plain_walk() + value)

    def test_other_schemas_come_first(self):
        schema = Schema(["a"], {})
        other = Walk(schema, [("find", "x", "a", "many", ())])
        self.raises(OtherSchema, {}, lambda: plain_walk() | other)
        self.raises(OtherSchema, {}, lambda: plain_walk() + other)
        self.raises(OtherSchema, {}, lambda: other + plain_walk())

    def test_other_finds(self):
        walk = plain_walk()
        for finds in ([("x", "a", "many")], [("b", "b", "one"), ("x", "a", "many")], [("x", "a", "one"), ("b", "b", "one")],
                      [("x", "b", "many"), ("b", "b", "one")], [("y", "a", "many"), ("b", "b", "one")]):
            other = Walk(rich_schema(), [("find",) + row + ((),) for row in finds])
            self.raises(OtherFinds, {"one": walk.finds(), "other": finds}, lambda: walk + other)
            self.raises(OtherFinds, {"one": finds, "other": walk.finds()}, lambda: other + walk)

    def finds(self, *names, body=()):
        return Walk(rich_schema(), [("find", name, "a", "one", body) for name in names])

    def test_names_that_both_have(self):
        self.raises(NameTaken, {"name": "b"}, lambda: self.finds("z", "c", "b") | self.finds("a", "c", "b", "z"))
        self.raises(NameTaken, {"name": "c"}, lambda: self.finds("c") | self.finds("c"))

    def test_four_and_five_finds(self):
        self.assertEqual(len(self.finds("a", "b") | self.finds("c", "d")), 4)
        self.raises(TooMany, {"what": "finds", "limit": 4}, lambda: self.finds("a", "b") | self.finds("c", "d", "e"))

    def great(self, name, *body):
        return Walk(rich_schema(), [("find", name, "a", "one", body)])

    def test_too_many_statements_and_spots(self):
        ifs, gos = ("if", "x", "u", ()), ("go", "x", "p", "y", ())
        both = self.great("x", *[ifs] * 150) + self.great("x", *[ifs] * 150)
        self.assertEqual(len(both.paths()), 301)
        limit = {"what": "statements", "limit": 300}
        self.raises(TooMany, limit, lambda: self.great("x", *[ifs] * 150) + self.great("x", *[ifs] * 151))
        limit = {"what": "spots", "limit": 120}
        self.assertEqual(len(self.great("x", *[gos] * 60) + self.great("x", *[gos] * 59)), 120)
        self.raises(TooMany, limit, lambda: self.great("x", *[gos] * 60) + self.great("x", *[gos] * 60))

    def test_too_many_of_both_finds(self):
        rows = {name: [("if", name, "u", ())] * 100 + [("go", name, "p", "w", ())] * 59 for name in ("x", "y")}
        limit = {"what": "statements", "limit": 300}
        self.raises(TooMany, limit, lambda: self.great("x", *rows["x"]) | self.great("y", *rows["y"]))
        self.assertEqual(len(self.great("x", *rows["x"][100:]) | self.great("y", *rows["y"][100:])), 120)
        many = [("go", "y", "p", "w", ())] * 60
        limit = {"what": "spots", "limit": 120}
        self.raises(TooMany, limit, lambda: self.great("x", *rows["x"][100:]) | self.great("y", *many))

    def test_names_come_ahead_of_greatness(self):
        many = [("go", "x", "p", "w", ())] * 119
        self.raises(NameTaken, {"name": "x"}, lambda: self.great("x", *many) | self.great("x", *many))
        five = self.finds("a", "b", "c", "d")
        limit = {"what": "finds", "limit": 4}
        self.raises(TooMany, limit, lambda: five | self.great("x", *many))


class Equality(WalkTest):
    def test_equal(self):
        self.assertTrue(plain_walk() == plain_walk())
        self.assertFalse(called_walk() != called_walk())
        one = Walk(rich_schema(), (("find", "x", "a", "one", ()),), [("block", "t", "a", "x", ())])
        other = Walk(rich_schema(), [("find", "x", "a", "one", ())], (("block", "t", "a", "x", ()),))
        self.assertTrue(one == other)

    def test_others(self):
        schema = rich_schema()
        one = Walk(schema, [("find", "x", "a", "one", (("go", "x", "f", "y", ()),))])
        others = [
            Walk(schema, [("find", "x", "a", "many", (("go", "x", "f", "y", ()),))]),
            Walk(schema, [("find", "x", "a", "one", (("go", "x", "f", "z", ()),))]),
            Walk(schema, [("find", "z", "a", "one", (("go", "z", "f", "y", ()),))]),
            Walk(schema, [("find", "x", "a", "one", (("go", "x", "f", "y", ()),))], [("block", "t", "a", "x", ())]),
            Walk(Schema(["a", "b"], {"f": ("a", "b", None, False)}), [("find", "x", "a", "one", (("go", "x", "f", "y", ()),))]),
        ]
        for other in others:
            self.assertFalse(one == other)
            self.assertTrue(one != other)

    def test_values_of_other_kinds(self):
        for value in ODD + [rich_schema(), shop_schema(), plain_walk().finds(), Walk]:
            self.assertFalse(plain_walk() == value)
            self.assertTrue(plain_walk() != value)


if __name__ == "__main__":
    unittest.main()
