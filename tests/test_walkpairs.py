"""Two walks: within, alike, covers, partings, maps, needless statements, lean walks."""

import copy
import unittest

from fetchwalks.errors import NoWalk, OtherFinds, OtherSchema
from fetchwalks.minimal import minimal_for_loop, minimal_store
from fetchwalks.runs import looped_lists, touched
from fetchwalks.schemas import Schema
from fetchwalks.stores import Store
from fetchwalks.walkpairs import are_alike, are_maps, covers, is_lean, is_parting, is_within, lean, maps, needless
from fetchwalks.walkpairs import parting
from fetchwalks.walks import Walk
from samples import ODD, rich_schema, rich_store, row_a, row_b, shop_schema


def find(*body, name="x", kind="a"):
    return ("find", name, kind, "many", body)


def walk_of(*finds, blocks=()):
    return Walk(rich_schema(), finds, blocks)


def body_of(*body):
    return walk_of(find(*body))


GO = ("go", "x", "f", "y", ())
IF_GO = ("if", "x", "u", (GO,))
LOOP = ("for", "x", "k", "y", ())
PAIR_ASKS = [is_within, are_alike, covers, parting, maps]


def comes_to(walk, store, roots, thing):
    word, name, number = thing
    return (name, number) in (touched if word == "object" else looped_lists)(walk, store, roots)


class Within(unittest.TestCase):
    def check(self, one, other, there, back, objects_there=None, objects_back=None):
        for first, second, wanted in ((one, other, there), (other, one, back)):
            self.assertIs(is_within(first, second), wanted)
            self.assertIs(covers(second, first), wanted)
            self.assertIs(maps(first, second) is not None, wanted)
        self.assertIs(are_alike(one, other), there and back)
        self.assertIs(are_alike(other, one), there and back)
        there = there if objects_there is None else objects_there
        back = back if objects_back is None else objects_back
        self.assertIs(is_within(one, other, lists=False), there)
        self.assertIs(is_within(other, one, lists=False), back)
        self.assertIs(are_alike(one, other, lists=False), there and back)

    def test_itself(self):
        for walk in (body_of(), body_of(GO), body_of(IF_GO, LOOP)):
            self.check(walk, walk, True, True)

    def test_more_is_not_within_less(self):
        self.check(body_of(), body_of(GO), True, False)
        self.check(body_of(IF_GO), body_of(GO), True, False)
        self.check(body_of(GO), body_of(GO, ("go", "x", "g", "y", ())), True, False)

    def test_neither(self):
        self.check(body_of(GO), body_of(("go", "x", "g", "y", ())), False, False)
        self.check(body_of(IF_GO), body_of(("if", "x", "v", (GO,))), False, False)

    def test_lists_alone(self):
        # The members of the list of the target by a single field are the object itself.
        back = ("go", "x", "g", "y", (("for", "y", "m", "z", ()),))
        self.check(body_of(("go", "x", "g", "y", ())), body_of(back), True, False, True, True)

    def test_a_list_contains_where_one_came_from(self):
        self.check(body_of(("for", "x", "k", "y", (("go", "y", "p", "z", ()),))), body_of(LOOP), True, True)

    def test_another_member(self):
        one = body_of(("for", "x", "k", "y", (("for", "x", "k", "z", ()),)))
        self.check(one, body_of(LOOP), True, True)

    def test_two_tests_of_two_members(self):
        inner = ("if", "y", "u", (("if", "z", "v", (("go", "x", "f", "t", ()),)),))
        one = body_of(("for", "x", "k", "y", (("for", "x", "k", "z", (inner,)),)))
        other = body_of(("for", "x", "k", "y", (("if", "y", "u", (("if", "y", "v", (("go", "x", "f", "t", ()),)),)),)))
        self.check(one, other, False, True)

    def test_tests_in_another_sequence(self):
        one = body_of(("if", "x", "u", (("if", "x", "v", (GO,)),)))
        other = body_of(("if", "x", "v", (("if", "x", "u", (GO,)),)))
        self.check(one, other, True, True)

    def test_a_flag_of_another_variable(self):
        inner = ("go", "y", "f", "z", ())
        member = body_of(("for", "x", "k", "y", (("if", "y", "u", (inner,)),)))
        owner = body_of(("for", "x", "k", "y", (("if", "x", "u", (inner,)),)))
        self.check(member, owner, False, False)
        both = body_of(("for", "x", "k", "y", (("if", "y", "u", (("if", "x", "u", (inner,)),)),)))
        self.check(both, member, True, False)
        self.check(both, owner, True, False)

    def test_an_owner_further_out(self):
        one = body_of(("for", "x", "k", "y", (GO[:3] + ("z", ()),)))
        self.check(one, body_of(LOOP, GO), True, False)

    def test_other_finds_do_not_help(self):
        one = walk_of(find(GO), find(name="v"))
        other = walk_of(find(), find(("go", "v", "f", "y", ()), name="v"))
        self.check(one, other, False, False)

    def test_calls_count_as_what_is_written_out(self):
        block = ("block", "t", "a", "x", (GO, LOOP))
        one = walk_of(find(("call", "t", "x")), blocks=[block])
        self.check(one, body_of(LOOP, GO), True, True)
        self.check(one, one.written_out(), True, True)

    def test_lists_of_other_fields(self):
        schema = Schema(["a"], {"p": ("a", "a", "k", False), "q": ("a", "a", "n", False)})
        one, other = [Walk(schema, [("find", "x", "a", "one", (("for", "x", link, "y", ()),))]) for link in "kn"]
        self.assertEqual([is_within(one, other), is_within(other, one)], [False, False])

    def test_a_list_with_the_name_of_a_kind(self):
        schema = Schema(["a", "b"], {"f": ("b", "a", "a", True)})
        rows = [("go", "x", "f", "y", body) for body in ((("for", "y", "a", "z", ()),), ())]
        one, other = [Walk(schema, [("find", "x", "b", "one", (row,))]) for row in rows]
        self.check(one, other, False, True, True, True)
        value = maps(one, one)
        value["list", (0, 0, 0)] = value["object", (0, 0)]
        self.assertFalse(are_maps(one, one, value))

    def test_by_name(self):
        one, other = body_of(), body_of(GO)
        self.assertEqual([is_within(other=other, one=one), covers(other=other, one=one)], [True, False])
        self.assertEqual([are_alike(other=other, one=one, lists=True), maps(other=one, one=other)], [False, None])
        self.assertTrue(is_parting(other=other, one=one, value=parting(other=other, one=one)))
        with self.assertRaises(TypeError):
            is_within(one, other, True)


class Partings(unittest.TestCase):
    def check(self, one, other, lists=True):
        found = parting(one, other, lists=lists)
        store, roots, thing = found
        self.assertIsInstance(found, tuple)
        self.assertEqual(store.schema, one.schema)
        self.assertNotEqual(comes_to(one, store, roots, thing), comes_to(other, store, roots, thing))
        self.assertTrue(is_parting(one, other, found, lists=lists))
        self.assertTrue(is_parting(other, one, found, lists=lists))
        self.assertFalse(is_parting(one, one, found, lists=lists))
        return thing

    def test_objects(self):
        self.check(body_of(), body_of(GO))
        self.check(body_of(GO), body_of())
        self.check(body_of(IF_GO), body_of(GO))
        self.check(body_of(GO, LOOP), body_of(LOOP, IF_GO))
        self.assertEqual(self.check(body_of(GO), body_of(), lists=False), ("object", "b", 1))

    def test_lists(self):
        back = body_of(("go", "x", "g", "y", (("for", "y", "m", "z", ()),)))
        here = body_of(("go", "x", "g", "y", ()))
        self.assertEqual(self.check(back, here), ("list", "m", 1))
        self.assertIsNone(parting(back, here, lists=False))
        self.assertIsNone(parting(here, back, lists=False))

    def test_none(self):
        for walk in (body_of(), body_of(GO, IF_GO)):
            self.assertIsNone(parting(walk, walk))
        self.assertIsNone(parting(body_of(GO), body_of(GO, IF_GO)))

    def test_a_list_is_no_parting_if_lists_do_not_count(self):
        back = body_of(("go", "x", "g", "y", (("for", "y", "m", "z", ()),)))
        here = body_of(("go", "x", "g", "y", ()))
        found = parting(back, here)
        self.assertEqual([is_parting(back, here, found), is_parting(back, here, found, lists=False)], [True, False])
        for word in ("List", "lists", "", "for", "object", None, ["list"]):
            self.assertFalse(is_parting(back, here, found[:2] + ((word, "m", 1),)))

    def test_spoilt_values(self):
        one, other = body_of(GO, LOOP), body_of(LOOP)
        store, roots, thing = parting(one, other)
        self.assertEqual((thing, roots), (("object", "b", 1), {"x": [1]}))
        things = ODD + [list(thing), thing[:2], thing + (1,), ("object", "b", True), ("object", "b", 2), ("object", "b", "1")]
        things += [("object", "a", 1), ("list", "b", 1), ("list", "l", 1), ("Object", "b", 1), (["object"], "b", 1)]
        things += [("object", ["b"], 1), ("object", {}, 1), ("object", "b", [1]), (None, "b", 1), ("", "b", 1), ("thing", "b", 1)]
        values = ODD + [[store, roots, thing], (store, roots), (store, roots, thing, 1)]
        values += [(store, roots, value) for value in things]
        values += [(value, roots, thing) for value in ODD + [Store(rich_schema()), Store(shop_schema()), rich_schema()]]
        wrong_roots = ODD + [{}, {"x": []}, {"x": [2]}, {"x": [1, 1]}, {"x": [True]}, {"x": None}, {"y": [1]}, [[1]]]
        wrong_roots += [{"x": [1], "y": []}, {"x": {1: 1}}]
        values += [(store, value, thing) for value in wrong_roots]
        for value in values:
            self.assertIs(is_parting(one, other, value), False)
            self.assertIs(is_parting(other, one, value, lists=False), False)
        self.assertIs(is_parting(one, other, (store, {"x": (1,)}, thing)), True)

    def test_a_store_of_another_schema(self):
        one, other = body_of(GO), body_of()
        twin = Schema(["a", "b"], {"f": ("a", "b", None, False)})
        store = Store(twin)
        store += [("a", 1, {"f": 1}), ("b", 1, {})]
        self.assertFalse(is_parting(one, other, (store, {"x": [1]}, ("object", "b", 1))))

    def test_a_greater_store_can_part_them_too(self):
        store = rich_store()
        value = (store, {"x": [3, 1]}, ("object", "b", 2))
        self.assertTrue(is_parting(body_of(GO), body_of(IF_GO), value))
        self.assertFalse(is_parting(body_of(GO), body_of(IF_GO), value[:2] + (("object", "b", 1),)))

    def test_what_is_returned_is_new(self):
        one, other = body_of(GO), body_of()
        store, roots, _ = parting(one, other)
        store["a", 7] = row_a()
        roots["x"].clear()
        self.assertEqual((len(parting(one, other)[0]), parting(one, other)[1]), (2, {"x": [1]}))


class Maps(unittest.TestCase):
    def setUp(self):
        self.one = body_of(("for", "x", "k", "y", (("for", "x", "k", "z", (("if", "z", "u", (GO[:3] + ("t", ()),)),)),)))
        self.other = body_of(("for", "x", "k", "y", (("if", "y", "u", (GO[:3] + ("t", ()),)),)))
        self.maps = maps(self.one, self.other)

    def test_keys(self):
        keys = [("list", loop) for loop in self.one.loops()] + [("object", spot) for spot in self.one.spots()]
        self.assertEqual(list(self.maps), keys)

    def test_values(self):
        self.assertTrue(are_maps(self.one, self.other, self.maps))
        for (word, spot), (second, mapped) in self.maps.items():
            minimal = minimal_store if word == "object" else minimal_for_loop
            things = minimal(self.one, spot)[2]
            ahead = [second[:length] for length in range(1, len(second) + (word == "object"))]
            self.assertEqual(list(mapped), [path for path in ahead if path in self.other])
            self.assertTrue(all([spot in things for spot in mapped.values()]))
            goal = second if word == "object" else self.other.owner_of(second)
            own = spot if word == "object" else self.one.owner_of(spot)
            self.assertEqual(things[mapped[goal]], things[own])

    def test_the_test_decides_about_the_spot(self):
        second, mapped = self.maps["object", (0, 0, 0, 0, 0)]
        self.assertEqual(second, (0, 0, 0, 0))
        self.assertEqual(mapped, {(0,): (0,), (0, 0): (0, 0, 0), (0, 0, 0, 0): (0, 0, 0, 0, 0)})

    def test_loops_of_loops(self):
        self.assertEqual(self.maps["list", (0, 0, 0)], ((0, 0), {(0,): (0,)}))

    def test_none(self):
        self.assertIsNone(maps(body_of(GO), body_of(IF_GO)))
        back = body_of(("go", "x", "g", "y", (("for", "y", "m", "z", ()),)))
        self.assertIsNone(maps(back, body_of(("go", "x", "g", "y", ()))))
        self.assertFalse(are_maps(body_of(GO), body_of(IF_GO), {}))
        self.assertFalse(are_maps(body_of(GO), body_of(IF_GO), None))

    def test_any_value(self):
        for value in ODD + [list(self.maps.items()), self.one, set()]:
            self.assertIs(are_maps(self.one, self.other, value), False)

    def spoilt(self, change):
        value = copy.deepcopy(self.maps)
        change(value)
        self.assertIs(are_maps(self.one, self.other, value), False)

    def test_other_keys(self):
        self.spoilt(lambda value: value.pop(("object", (0,))))
        self.spoilt(lambda value: value.pop(("list", (0, 0))))
        self.spoilt(lambda value: value.update({("object", (1,)): value["object", (0,)]}))
        for key in [("object", (False,)), ["object"], ("object", (0,), 1), "object", 1, None, ("Object", (0,)), ("list", (0,))]:
            if not isinstance(key, list):
                def change(value):
                    entry = value.pop(("object", (0,)))
                    value[key] = entry
                self.spoilt(change)

    def test_other_values(self):
        key = ("object", (0, 0, 0, 0, 0))
        spot, mapped = self.maps[key]
        wrong = ODD + [[spot, mapped], (spot,), (spot, mapped, 1), (list(spot), mapped), (spot, list(mapped.items()))]
        wrong += [((0, 0, 0), mapped), ((0, 9), mapped), ((0, 0), {(0,): (0,), (0, 0): (0, 0)}), (None, mapped), (spot, None)]
        wrong += [((False, 0, 0, 0), mapped), ((0, 0, 0, False), mapped), (spot, {}), ({}, mapped), ([], mapped)]
        for entry in wrong:
            self.spoilt(lambda value: value.update({key: entry}))

    def test_other_maps(self):
        key = ("object", (0, 0, 0, 0, 0))
        spot, mapped = self.maps[key]
        wrong = [{**mapped, (0, 0): (0, 0)}, {**mapped, (0,): (0, 0)}, {**mapped, (0, 0, 0, 0): (0, 0, 0)}, {**mapped, (0, 0): (0,)}]
        wrong += [{**mapped, (0, 0): value} for value in ODD + [[0, 0, 0], (0, 0, False), (0, 0, 0, 0), (0, 9), (1,)]]
        wrong += [{**mapped, (0, 0, 0): (0, 0, 0)}, {**mapped, 1: 1}]
        wrong += [{path: end for path, end in mapped.items() if path != spot}]
        twisted = {path: end for path, end in mapped.items() if path != (0,)}
        wrong += [{**twisted, (False,): (0,)}, {**twisted, "x": (0,)}, {**twisted, (1,): (0,)}, {**twisted, None: (0,)}]
        for entry in wrong:
            self.spoilt(lambda value: value.update({key: (spot, entry)}))

    def test_other_loops(self):
        key = ("list", (0, 0, 0))
        for entry in [((0, 0), {}), ((0, 0), {(0,): (0, 0)}), ((0, 0), {(0,): (0,), (0, 0): (0, 0)}), ((0,), {(0,): (0,)}), ((0, 0, 0), {(0,): (0,)})]:
            self.spoilt(lambda value: value.update({key: entry}))

    def test_a_loop_of_another_list(self):
        one = body_of(LOOP, ("for", "x", "n", "y", ()))
        value = maps(one, one)
        value["list", (0, 0)] = value["list", (0, 1)]
        self.assertFalse(are_maps(one, one, value))

    def test_a_spot_in_another_find(self):
        one = walk_of(find(), find(name="v"))
        value = maps(one, one)
        self.assertTrue(are_maps(one, one, value))
        value["object", (0,)] = ((1,), {(1,): (1,)})
        self.assertFalse(are_maps(one, one, value))
        value["object", (0,)] = ((1,), {(1,): (0,)})
        self.assertFalse(are_maps(one, one, value))

    def test_the_find_is_mapped_to_itself(self):
        one = body_of(("for", "x", "k", "y", (("go", "y", "p", "z", ()),)))
        value = maps(one, one)
        self.assertTrue(are_maps(one, one, value))
        spot, mapped = value["object", (0, 0)]
        value["object", (0, 0, 0)] = ((0, 0, 0), {(0,): (0,), (0, 0): (0, 0), (0, 0, 0): (0, 0, 0)})
        self.assertTrue(are_maps(one, one, value))
        # This spot has the object of the find, but it is not the find.
        value["object", (0, 0, 0)] = ((0,), {(0,): (0, 0, 0)})
        self.assertFalse(are_maps(one, one, value))
        value["object", (0, 0, 0)] = ((0,), {(0,): (0,)})
        self.assertTrue(are_maps(one, one, value))

    def test_the_find_is_mapped_to_no_other_spot(self):
        # The other walk's step would fit, if it could begin at the member.
        one = body_of(("for", "x", "k", "y", (("go", "y", "f", "z", ()),)))
        other = body_of(LOOP, GO)
        value = maps(one, body_of(("for", "x", "k", "y", (("go", "y", "f", "z", ()),)), GO))
        spot = ("object", (0, 0, 0))
        self.assertEqual(value[spot][0], (0, 0, 0))
        for start in ((0,), (0, 0)):
            wrong = {**value, spot: ((0, 1), {(0,): start, (0, 1): (0, 0, 0)})}
            self.assertFalse(are_maps(one, other, wrong))
            self.assertFalse(are_maps(one, body_of(("for", "x", "k", "y", (("go", "y", "f", "z", ()),)), GO), wrong))

    def test_variables_that_are_not_used_again(self):
        # The step by f lies around the one by g, which does not need it; but it must be gone, too.
        one = body_of(("go", "x", "g", "z", ()))
        other = body_of(("go", "x", "f", "y", (("go", "x", "g", "z", ()),)))
        find_alone = ((0,), {(0,): (0,)})
        for middle in ((0,), (0, 0)):
            wrong = {("object", (0,)): find_alone, ("object", (0, 0)): ((0, 0, 0), {(0,): (0,), (0, 0): middle, (0, 0, 0): (0, 0)})}
            self.assertFalse(are_maps(one, other, wrong))

    def test_flags_that_are_not_true(self):
        one, other = body_of(GO), body_of(IF_GO)
        wrong = {("object", (0,)): ((0,), {(0,): (0,)}), ("object", (0, 0)): ((0, 0, 0), {(0,): (0,), (0, 0, 0): (0, 0)})}
        self.assertFalse(are_maps(one, other, wrong))
        # Another flag, or that of another object.
        loop = ("for", "x", "k", "y", (("if", "y", "u", (("go", "y", "f", "z", ()),)),))
        owner = ("for", "x", "k", "y", (("if", "x", "u", (("go", "y", "f", "z", ()),)),))
        for first, second in ((("if", "x", "v", (GO,)), IF_GO), (loop, owner), (owner, loop)):
            one, both = body_of(first), body_of(first, second)
            value = maps(one, both)
            self.assertTrue(are_maps(one, both, value))
            for key in value:
                if len(key[1]) > 2:
                    start, mapped = value[key]
                    # The same way through the second statement.
                    moved = {path[:1] + (1,) * len(path[1:2]) + path[2:]: mapped[path] for path in mapped}
                    there = start[:1] + (1,) + start[2:]
                    self.assertFalse(are_maps(one, both, {**value, key: (there, moved)}))

    def test_the_passed_dict_stays(self):
        before = copy.deepcopy(self.maps)
        are_maps(self.one, self.other, self.maps)
        self.assertEqual(self.maps, before)

    def test_keys_in_any_sequence(self):
        value = {key: self.maps[key] for key in list(self.maps)[::-1]}
        self.assertTrue(are_maps(self.one, self.other, value))


class Needless(unittest.TestCase):
    def test_none(self):
        for walk in (body_of(), body_of(GO), body_of(IF_GO), body_of(LOOP, GO)):
            self.assertEqual([needless(walk), lean(walk), is_lean(walk)], [[], walk, True])

    def test_finds_are_never_left_out(self):
        walk = walk_of(find(), find(name="v"))
        self.assertEqual([needless(walk), lean(walk)], [[], walk])

    def test_an_if_without_a_body(self):
        walk = body_of(("if", "x", "u", ()), GO)
        self.assertEqual([needless(walk), lean(walk), is_lean(walk)], [[(0, 0)], body_of(GO), False])

    def test_two_statements_that_do_the_same(self):
        walk = body_of(GO, GO)
        self.assertEqual([needless(walk), is_lean(walk)], [[(0, 0), (0, 1)], False])
        self.assertEqual(lean(walk), body_of(GO))

    def test_a_statement_that_does_less(self):
        walk = body_of(IF_GO, GO)
        self.assertEqual(needless(walk), [(0, 0), (0, 0, 0)])
        self.assertEqual(lean(walk), body_of(GO))

    def test_a_step_back(self):
        walk = body_of(("for", "x", "k", "y", (("go", "y", "p", "z", (GO[:3] + ("t", ()),)),)))
        # The target of the found object is touched only if it has a member, so it is not done without.
        self.assertEqual(needless(walk), [])
        walk = body_of(("for", "x", "k", "y", (("go", "y", "p", "z", ()),)))
        self.assertEqual([needless(walk), lean(walk)], [[(0, 0, 0)], body_of(LOOP)])

    def test_lists_count(self):
        walk = body_of(("go", "x", "g", "y", (("for", "y", "m", "z", ()),)))
        self.assertEqual(needless(walk), [])

    def test_a_body_is_left_out_with_its_statement(self):
        one = ("go", "x", "f", "y", (("for", "y", "l", "z", ()),))
        walk = body_of(one, ("if", "x", "u", (one,)))
        self.assertEqual(needless(walk), [(0, 1), (0, 1, 0), (0, 1, 0, 0)])
        self.assertEqual(lean(walk), body_of(one, ("if", "x", "u", ())).without((0, 1)))
        self.assertTrue(are_alike(walk, lean(walk)))
        self.assertEqual(needless(lean(walk)), [])

    def test_walks_with_blocks_are_not_lean(self):
        block = ("block", "t", "a", "x", (GO,))
        walk = walk_of(find(), blocks=[block])
        self.assertEqual([needless(walk), is_lean(walk), lean(walk)], [[], False, body_of()])
        walk = walk_of(find(("call", "t", "x"), GO), blocks=[block])
        self.assertEqual([needless(walk), is_lean(walk), lean(walk)], [[(0, 0), (0, 1)], False, body_of(GO)])

    def test_by_name(self):
        walk = body_of(GO, GO)
        self.assertEqual([needless(walk=walk), lean(walk=walk), is_lean(walk=walk)], [[(0, 0), (0, 1)], body_of(GO), False])

    def test_the_walk_stays(self):
        walk = body_of(IF_GO, GO)
        lean(walk)
        self.assertEqual(walk, body_of(IF_GO, GO))

    def test_no_walk(self):
        for value in ODD + [Walk, rich_schema()]:
            for ask in (needless, lean, is_lean):
                with self.assertRaises(NoWalk) as caught:
                    ask(value)
                self.assertIs(caught.exception.value, value)


class Errors(unittest.TestCase):
    def raises(self, error, attributes, one, other):
        asks = PAIR_ASKS + [lambda one, other: is_parting(one, other, None), lambda one, other: are_maps(one, other, None)]
        asks += [lambda one, other: ask(one, other, lists=False) for ask in (is_within, are_alike, parting)]
        for ask in asks:
            with self.assertRaises(error) as caught:
                ask(one, other)
            self.assertEqual(vars(caught.exception), attributes)

    def test_no_walks(self):
        for value in ODD + [Walk, rich_schema(), Store(rich_schema())]:
            self.raises(NoWalk, {"value": value}, value, None)
            self.raises(NoWalk, {"value": value}, body_of(), value)

    def test_other_schemas(self):
        other = Walk(Schema(["a"], {}), [("find", "y", "a", "one", ())])
        self.raises(OtherSchema, {}, body_of(), other)
        self.raises(OtherSchema, {}, other, body_of())

    def test_other_finds(self):
        one = walk_of(find(), find(name="v"))
        rows = [[find(name="v"), find()], [find()], [find(), find(name="v", kind="b")], [find(), find(name="w")]]
        rows.append([find(), ("find", "v", "a", "one", ())])
        for finds in rows:
            other = walk_of(*finds)
            self.raises(OtherFinds, {"one": one.finds(), "other": other.finds()}, one, other)
            self.raises(OtherFinds, {"one": other.finds(), "other": one.finds()}, other, one)


def great_loops():
    """Four loops over one list within one another, and as many steps behind them as there can be."""
    inner = tuple([("go", name, "q", "t", (("if", name, "v", ()),)) for name in "bcde" * 28 + "bcd"])
    body = inner
    for name in "edcb":
        body = (("for", "x", "k", name, body),)
    return body_of(*body)


def great_tests():
    """Walks of full depth, one beside the other."""
    rows = []
    for last in "uv" * 7:
        body = (("go", "x", "f", "t", ()),)
        for name in "edcb":
            body = (("for", "x", "k", name, (("if", name, last, body),)),)
        rows += [("if", "x", "u", (("if", "x", "v", body),))]
    return body_of(*rows)


def great_calls():
    """A walk that is short with its blocks, and long written out."""
    blocks = [("block", "s", "a", "x", (("go", "x", "q", "y", ()), ("if", "x", "u", ())))]
    for name, called in ("ts", "ut", "vu", "wv"):
        loop = ("for", "x", "k", "y", (("call", called, "y"), ("call", called, "x")))
        blocks.append(("block", name, "a", "x", (loop, ("if", "x", "v", (("call", called, "x"),)))))
    return walk_of(find(("call", "w", "x")), blocks=blocks[:4] + [("block", "w", "a", "x", (("call", "v", "x"),))])


class Greatness(unittest.TestCase):
    def test_walks_at_the_limits(self):
        sizes = [(len(walk), len(walk.paths())) for walk in (great_loops(), great_tests())]
        self.assertEqual(sizes, [(120, 235), (71, 155)])
        self.assertEqual(len(great_calls()), 41)
        for walk in (great_loops(), great_tests(), great_calls()):
            self.assertTrue(are_alike(walk, walk))
            self.assertIsNone(parting(walk, walk))
            self.assertTrue(are_maps(walk, walk, maps(walk, walk)))
            rest = lean(walk)
            self.assertTrue(is_lean(rest))
            self.assertTrue(are_alike(rest, walk))
            self.assertTrue(are_maps(walk, rest, maps(walk, rest)))
            self.assertEqual(needless(walk) == [], rest == walk)

    def test_parted_at_the_limits(self):
        one = great_loops()
        self.assertFalse(is_within(one, body_of(LOOP)))
        self.assertTrue(is_parting(one, body_of(LOOP), parting(one, body_of(LOOP))))
        self.assertTrue(is_within(body_of(LOOP), one))


if __name__ == "__main__":
    unittest.main()
