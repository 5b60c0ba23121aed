"""Walks: what is wrong with one, where, and how great one can be."""

import unittest

from fetchwalks.errors import InvalidSchema, InvalidWalk, TooMany
from fetchwalks.schemas import Schema
from fetchwalks.stores import Store
from fetchwalks.walks import Walk
from samples import ODD, rich_schema, shop_schema

NO_NAMES = [None, True, 1, "", "abcdefghi", "X", "x1", "x y", b"x", [], ["x"], {}, (), ("x",)]


def find(*body):
    return ("find", "x", "a", "many", body)


def block(*body, name="t", kind="a"):
    return ("block", name, kind, "x", body)


class FaultTest(unittest.TestCase):
    def fault(self, problem, place, finds, blocks=()):
        with self.assertRaises(InvalidWalk) as caught:
            Walk(rich_schema(), finds, blocks)
        self.assertEqual((caught.exception.problem, caught.exception.place), (problem, place))

    def fault_in_body(self, problem, path, *body):
        """The same body in a find, and in a block."""
        self.fault(problem, (1, 0) + path, [find(*body)])
        self.fault(problem, (1, 1) + path, [("find", "y", "b", "one", ()), find(*body)])
        self.fault(problem, (0, 0) + path, [find()], [block(*body)])
        self.fault(problem, (0, 1) + path, None, [block(name="s", kind="b"), block(*body)])

    def fits(self, *body):
        self.assertEqual(len(Walk(rich_schema(), [find(*body)]).finds()), 1)
        self.assertEqual(len(Walk(rich_schema(), [find()], [block(*body)]).finds()), 1)


class Lists(FaultTest):
    def test_no_schema(self):
        for value in ODD + [Schema, Store(shop_schema())]:
            with self.assertRaises(InvalidSchema) as caught:
                Walk(value, None, None)
            self.assertIs(caught.exception.value, value)

    def test_finds(self):
        for value in [None, True, 1, "", "find", {}, {"x": 1}, b"", object(), find()[0], [], ()]:
            self.fault("form", (1,), value)

    def test_one_four_and_five_finds(self):
        finds = [("find", name, "a", "one", ()) for name in ("v", "w", "x", "y", "z")]
        self.assertEqual(Walk(rich_schema(), finds[:1]).finds(), [("v", "a", "one")])
        self.assertEqual(len(Walk(rich_schema(), tuple(finds[:4])).finds()), 4)
        self.fault("form", (1,), finds)
        self.fault("form", (1,), [None] * 5)

    def test_blocks(self):
        for value in [None, True, False, 0, 1, "", "block", {}, {"x": 1}, b"", object()]:
            self.fault("form", (0,), None, value)

    def test_six_and_seven_blocks(self):
        blocks = [block(name=name) for name in "tuvwxyz"]
        self.assertEqual(len(Walk(rich_schema(), [find()], blocks[:6])), 1)
        self.assertEqual(len(Walk(rich_schema(), [find()], tuple(blocks[:6]))), 1)
        self.assertEqual(len(Walk(rich_schema(), [find()], [])), 1)
        self.fault("form", (0,), [find()], blocks)
        self.fault("form", (0,), [find()], [None] * 7)

    def test_blocks_come_first(self):
        self.fault("form", (0,), [None], None)
        self.fault("form", (0, 0), None, [None])
        self.fault("unseen", (0, 0, 0), None, [block(("if", "z", "u", ()))])
        self.fault("form", (1,), None, [block()])


class Heads(FaultTest):
    def test_forms_of_finds(self):
        right = find()
        wrong = ODD + [list(right), right[:4], right + ((),), block(), ("if", "x", "u", ()), ("call", "t", "x")]
        wrong += [(word,) + right[1:] for word in [None, "Find", "", "block", b"find", [], {}, ("find",)]]
        wrong += [("find", name, "a", "many", ()) for name in NO_NAMES]
        wrong += [("find", "x", name, "many", ()) for name in NO_NAMES]
        wrong += [("find", "x", "a", word, ()) for word in NO_NAMES + ["One", "few", "a", ["one"], ("one",), "on", "onemany"]]
        for value in wrong:
            self.fault("form", (1, 0), [value])
            self.fault("form", (1, 1), [("find", "y", "b", "one", ()), value, None])

    def test_forms_of_blocks(self):
        right = block()
        wrong = ODD + [list(right), right[:4], right + ((),), find(), ("go", "x", "f", "y", ()), ("call", "t", "x")]
        wrong += [(word,) + right[1:] for word in [None, "Block", "", "find", b"block", [], {}, ("block",)]]
        for place in (1, 2, 3):
            wrong += [right[:place] + (name,) + right[place + 1:] for name in NO_NAMES]
        for value in wrong:
            self.fault("form", (0, 0), None, [value])
            self.fault("form", (0, 1), None, [block(name="s"), value, None])

    def test_kinds(self):
        self.fault("kind", (1, 0), [("find", "x", "c", "one", None)])
        self.fault("kind", (1, 0), [("find", "x", "f", "many", ())])
        self.fault("kind", (0, 0), None, [("block", "t", "c", "x", None)])
        self.fault("kind", (0, 1), None, [block(), block(kind="c")])
        self.fault("kind", (1, 1), [find(), ("find", "x", "c", "one", ())])

    def test_names_twice(self):
        self.fault("block", (1, 1), [find(), ("find", "x", "b", "one", None)])
        self.fault("block", (1, 2), [find(), ("find", "y", "b", "one", ()), ("find", "y", "a", "one", ())])
        self.fault("block", (0, 1), None, [block(), ("block", "t", "b", "y", None)])

    def test_names_of_finds_and_blocks_are_independent(self):
        walk = Walk(rich_schema(), [find(), ("find", "t", "b", "one", ())], [block(name="x"), block()])
        self.assertEqual(len(walk), 2)

    def test_bodies(self):
        for value in [None, True, 0, "", "ab", [], [()], {}, b"", object(), set()]:
            self.fault("body", (1, 0), [("find", "x", "a", "one", value)])
            self.fault("body", (0, 0), None, [("block", "t", "a", "x", value)])

    def test_a_form_that_is_wrong_comes_ahead_of_a_body(self):
        self.fault("form", (1, 0), [("find", "x", "a", "few", None)])
        self.fault("form", (0, 0), None, [("block", "T", "c", "x", None)])


class Statements(FaultTest):
    def test_forms(self):
        right = [("go", "x", "f", "y", ()), ("for", "x", "k", "y", ()), ("if", "x", "u", ())]
        self.fits(*right)
        wrong = list(ODD)
        for row in right:
            wrong += [list(row), row[:-1], row + ((),)]
            wrong += [(word,) + row[1:] for word in [None, "", "Go", "find", "block", "goto", b"go", [], {}, ("go",)]]
            for place in range(1, len(row) - 1):
                wrong += [row[:place] + (name,) + row[place + 1:] for name in NO_NAMES]
        wrong += [("call",), ("call", "t"), ("call", "t", "x", ()), ["call", "t", "x"], ("if", "x", "u", "y", ())]
        wrong += [("call", name, "x") for name in NO_NAMES] + [("call", "t", name) for name in NO_NAMES]
        wrong += [("go", "x", "f", ()), find(), block(), ("call", "x", "u", ())]
        for value in wrong:
            self.fault_in_body("form", (0,), value)
            self.fault_in_body("form", (1, 0), right[0], ("if", "x", "u", (value, None)), None)

    def test_unseen(self):
        for row in [("go", "y", "f", "x", None), ("for", "y", "k", "x", None), ("if", "y", "zz", None), ("call", "zz", "y")]:
            self.fault_in_body("unseen", (0,), row)
            # A variable beside is not in sight.
            self.fault_in_body("unseen", (1,), ("go", "x", "f", "y", ()), row)
        self.fault_in_body("unseen", (1, 0), ("go", "x", "f", "z", ()), ("if", "x", "u", (("if", "z", "w", ()),)))

    def test_variables_of_other_finds_are_not_in_sight(self):
        self.fault("unseen", (1, 1, 0), [find(), ("find", "y", "b", "one", (("if", "x", "u", ()),))])

    def test_variables_around_are_in_sight(self):
        inner = (("if", "x", "u", ()), ("if", "y", "w", ()), ("if", "z", "v", ()))
        self.fits(("go", "x", "f", "y", (("for", "y", "l", "z", inner),)))

    def test_links(self):
        for name in ["zz", "a", "u", "k", "i", "l", "x"]:
            self.fault_in_body("link", (0,), ("go", "x", name, "x", None))
        for name in ["zz", "a", "u", "p", "l", "i", "x"]:
            self.fault_in_body("link", (0,), ("for", "x", name, "x", None))
        self.fault_in_body("link", (0, 0), ("go", "x", "f", "y", (("go", "y", "f", "z", ()),)))

    def test_flags(self):
        for name in ["zz", "a", "f", "w", "x"]:
            self.fault_in_body("flag", (0,), ("if", "x", name, None))
        self.fault_in_body("flag", (0, 0), ("go", "x", "f", "y", (("if", "y", "u", ()),)))

    def test_taken(self):
        self.fault_in_body("taken", (0,), ("go", "x", "f", "x", None))
        self.fault_in_body("taken", (0,), ("for", "x", "k", "x", None))
        self.fault_in_body("taken", (0, 0, 0), ("go", "x", "f", "y", (("if", "x", "u", (("go", "x", "p", "y", ()),)),)))

    def test_a_name_can_be_used_again_beside(self):
        self.fits(("go", "x", "f", "y", ()), ("for", "x", "k", "y", (("if", "y", "u", ()),)))

    def test_bodies(self):
        for value in [None, True, 0, "", "ab", [], [()], {}, b"", object()]:
            for row in [("go", "x", "f", "y", value), ("for", "x", "k", "y", value), ("if", "x", "u", value)]:
                self.fault_in_body("body", (0,), row)
                self.fault_in_body("body", (1, 0), ("if", "x", "u", ()), ("if", "x", "v", (row, None)))

    def test_a_statement_comes_ahead_of_its_body_and_of_those_behind(self):
        self.fault_in_body("flag", (0,), ("if", "x", "w", (None,)), None)
        self.fault_in_body("form", (0, 0), ("if", "x", "u", (None,)), None)
        self.fault_in_body("form", (1,), ("if", "x", "u", ()), None, ("if", "z", "u", ()))

    def test_names_that_are_alike(self):
        schema = Schema(["a"], {"a": ("a", "a", "b", False)}, {"c": "a"})
        body = (("go", "a", "a", "b", (("for", "b", "b", "c", (("if", "c", "c", (("call", "a", "b"),)),)),)),)
        walk = Walk(schema, [("find", "a", "a", "one", body)], [("block", "a", "a", "a", (("if", "a", "c", ()),))])
        self.assertEqual(walk.statement((0, 0, 0, 0, 0)), ("if", "b", "c"))


class Calls(FaultTest):
    def test_unknown_blocks(self):
        self.fault("block", (1, 0, 0), [find(("call", "t", "x"))])
        self.fault("block", (1, 0, 0), [find(("call", "x", "x"))], [block()])
        self.fault("block", (1, 0, 0), [find(("call", "x", "x")), ("find", "t", "a", "one", ())], [block()])

    def test_a_block_of_another_kind(self):
        self.fault("block", (1, 0, 0), [find(("call", "t", "x"))], [block(kind="b")])
        rows = find(("go", "x", "f", "y", (("call", "t", "x"), ("call", "t", "y"))))
        self.fault("block", (1, 0, 0, 1), [rows], [block()])

    def test_x_comes_ahead_of_the_block(self):
        self.fault("unseen", (1, 0, 0), [find(("call", "zz", "z"))], [block()])

    def test_a_block_calls_only_blocks_ahead(self):
        self.fault("block", (0, 0, 0), [find()], [block(("call", "t", "x"))])
        self.fault("block", (0, 0, 0), [find()], [block(("call", "s", "x")), block(name="s")])
        self.fault("block", (0, 1, 0), [find()], [block(kind="b"), block(("call", "t", "x"), name="s")])
        walk = Walk(rich_schema(), [find(("call", "s", "x"))], [block(), block(("call", "t", "x"), name="s")])
        self.assertEqual(len(walk), 1)


def nested(depth, word="if"):
    body = ()
    for number in range(depth - 1, -1, -1):
        name = "abcdefghijklmnopqrstuvwyz"[number]
        body = {
            "if": (("if", "x", "u", body),),
            "go": (("go", "x", "p", name, body),),
            "for": (("for", "x", "k", name, body),),
        }[word]
    return body


class Greatness(unittest.TestCase):
    def too_many(self, what, limit, finds, blocks=()):
        with self.assertRaises(TooMany) as caught:
            Walk(rich_schema(), finds, blocks)
        self.assertEqual((caught.exception.what, caught.exception.limit), (what, limit))

    def test_statements(self):
        body = (("if", "x", "u", ()),) * 300
        self.assertEqual(len(Walk(rich_schema(), [find(*body)]).paths()), 301)
        self.too_many("statements", 300, [find(*body, body[0])])
        self.too_many("statements", 300, [find(*body), ("find", "y", "a", "one", (("if", "y", "u", ()),))])
        self.too_many("statements", 300, [find(("if", "x", "v", body))])

    def test_statements_by_calls(self):
        blocks = [block(*((("if", "x", "u", ()),) * 100))]
        calls = (("call", "t", "x"),) * 3
        self.assertEqual(len(Walk(rich_schema(), [find(*calls)], blocks).paths()), 301)
        self.too_many("statements", 300, [find(*calls, ("if", "x", "u", ()))], blocks)

    def test_spots(self):
        body = (("go", "x", "p", "y", ()),) * 119
        self.assertEqual(len(Walk(rich_schema(), [find(*body)])), 120)
        self.too_many("spots", 120, [find(*body, body[0])])
        self.too_many("spots", 120, [find(*body), ("find", "y", "a", "one", ())])
        self.too_many("spots", 120, [find(*body, ("for", "x", "k", "y", ()))])
        self.assertEqual(len(Walk(rich_schema(), [find(*body, ("if", "x", "u", ()))])), 120)

    def test_spots_by_calls(self):
        blocks = [block(*((("for", "x", "k", "y", ()),) * 17))]
        calls = (("call", "t", "x"),) * 7
        self.assertEqual(len(Walk(rich_schema(), [find(*calls)], blocks)), 120)
        self.too_many("spots", 120, [find(*calls, ("go", "x", "f", "y", ()))], blocks)

    def test_depth(self):
        self.assertEqual(len(Walk(rich_schema(), [find(*nested(12))]).paths()), 13)
        self.assertEqual(len(Walk(rich_schema(), [find(*nested(12, "go"))])), 13)
        self.too_many("depth", 12, [find(*nested(13))])
        self.too_many("depth", 12, [find(*nested(13, "go"))])
        self.too_many("depth", 12, [find(), ("find", "y", "a", "one", ()), ("find", "z", "a", "one", (("if", "z", "u", (("go", "z", "p", "x", nested(11)),)),))])

    def test_depth_by_calls(self):
        blocks = [block(*nested(6, "go")), block(("if", "x", "u", (("call", "t", "x"),)), name="s")]
        body = ("call", "s", "x")
        for number in range(5):
            body = ("if", "x", "u", (body,))
        self.assertEqual(len(Walk(rich_schema(), [find(body)], blocks)), 7)
        self.too_many("depth", 12, [find(("if", "x", "v", (body,)))], blocks)

    def test_loops(self):
        self.assertEqual(len(Walk(rich_schema(), [find(*nested(4, "for"))]).loops()), 4)
        self.assertEqual(len(Walk(rich_schema(), [find(*(nested(4, "for") * 9))]).loops()), 36)
        self.too_many("loops", 4, [find(*nested(5, "for"))])
        self.too_many("loops", 4, [find(), ("find", "y", "a", "one", (("go", "y", "p", "x", nested(5, "for")),))])

    def test_loops_by_calls(self):
        blocks = [block(*nested(2, "for")), block(("for", "x", "k", "y", (("call", "t", "y"),)), name="s")]
        body = ("call", "s", "x")
        self.assertEqual(len(Walk(rich_schema(), [find(("for", "x", "k", "z", (("call", "s", "z"),)))], blocks).loops()), 4)
        self.too_many("loops", 4, [find(*[("for", "x", "k", "z", (("for", "z", "k", "y", (("call", "s", "y"),)),))])], blocks)
        self.assertEqual(len(Walk(rich_schema(), [find(body, body)], blocks).loops()), 6)

    def test_two_limits_at_once(self):
        ifs, gos = (("if", "x", "u", ()),) * 301, (("go", "x", "p", "y", ()),) * 200
        self.too_many("statements", 300, [find(*gos, *ifs, *nested(13), *nested(5, "for"))])
        self.too_many("spots", 120, [find(*gos, *nested(13), *nested(5, "for"))])
        self.too_many("depth", 12, [find(*nested(13), *nested(5, "for"))])
        self.too_many("loops", 4, [find(*nested(5, "for"), *nested(12))])

    def test_what_is_wrong_comes_ahead_of_what_is_too_great(self):
        with self.assertRaises(InvalidWalk) as caught:
            Walk(rich_schema(), [find(*((("if", "x", "u", ()),) * 301), ("if", "x", "w", ()))])
        self.assertEqual(caught.exception.place, (1, 0, 301))

    def test_blocks_that_nobody_calls(self):
        great = [block(*((("if", "x", "u", ()),) * 400)), block(*nested(20, "go"), name="s")]
        great += [block(*nested(7, "for"), name="r")]
        self.assertEqual(len(Walk(rich_schema(), [find()], great)), 1)
        self.too_many("loops", 4, [find(("call", "r", "x"))], great)

    def test_calls_that_would_be_endless_to_write_out(self):
        blocks = [block(*((("go", "x", "p", "y", ()),) * 300), name="t")]
        for name in "uvwyz":
            blocks.append(block(*((("call", blocks[-1][1], "x"),) * 300), name=name))
        self.assertEqual(len(Walk(rich_schema(), [find()], blocks)), 1)
        self.too_many("statements", 300, [find(("call", "z", "x"))], blocks)


if __name__ == "__main__":
    unittest.main()
