"""Places: sets of them, what walks touch, loop and keep, and what shows it."""

import itertools
import random
import unittest

from chance import chance_finds, chance_plan, chance_schema, chance_walk
from fetchwalks.errors import InvalidPlace, InvalidPlaces, InvalidPlan, NoWalk, OtherFinds, OtherSchema, TooMany
from fetchwalks.errors import UnknownFind, UnknownLink, UnknownSpot
from fetchwalks.places import Places, is_place_table, kept_places, looped_places, place_table, places_at, prefixes
from fetchwalks.places import shows_place, touched_places, why_place
from fetchwalks.plans import Plan
from fetchwalks.schemas import Schema
from fetchwalks.walks import Walk
from fetchwalks.words import leads, reductions
from samples import ODD, layered_schema, layered_words, rich_schema, shop_schema, tree_body

NO_PLACES = ODD + [("x",), ["o"], ("o", "orders"), ("o", None), ("o", ["buyer"]), ("o", "buyer", "orders", "buyer"), "o"]


def shop_walk(*body):
    return Walk(shop_schema(), [("find", "o", "order", "many", body), ("find", "c", "customer", "one", ())])


def deep_walk():
    return shop_walk(("go", "o", "buyer", "b", (("for", "b", "orders", "p", (("go", "p", "place", "s", ()),)),)))


def rich_walk(*body):
    return Walk(rich_schema(), [("find", "x", "a", "many", body)])


def wide_walk():
    fields = {f"f{letter}": ("a", "b", f"l{letter}", False) for letter in "abcdefghijkl"}
    return Walk(Schema(["a", "b"], fields), [("find", "x", "a", "many", ()), ("find", "y", "a", "many", ())])


def many_rows(walk, name):
    """1,024 places of a find of wide_walk."""
    route = (name,) + tuple(itertools.chain.from_iterable((f"f{letter}", f"l{letter}") for letter in "abcdefghij"))
    return reductions(walk, route)


class PlaceTest(unittest.TestCase):
    def raises(self, error, attributes, ask, *arguments):
        with self.assertRaises(error) as caught:
            ask(*arguments)
        self.assertEqual(vars(caught.exception), attributes)


class Made(PlaceTest):
    def test_of_rows(self):
        rows = [("o", "buyer"), ("c",), ("o",), ("o", "buyer")]
        for value in (rows, tuple(rows), [("c",), ("o",), ("o", "buyer")]):
            self.assertEqual(Places(shop_walk(), value).rows(), [("c",), ("o",), ("o", "buyer")])
            self.assertEqual(len(Places(shop_walk(), value)), 3)
        self.assertEqual(Places(walk=shop_walk(), rows=rows).rows(), [("c",), ("o",), ("o", "buyer")])

    def test_of_none(self):
        for places in (Places(shop_walk()), Places(shop_walk(), []), Places(shop_walk(), ())):
            self.assertEqual([places.rows(), len(places), bool(places)], [[], 0, False])
        self.assertIs(bool(Places(shop_walk(), [("o",)])), True)

    def test_no_walk_and_no_rows(self):
        for value in ODD + [shop_schema()]:
            self.raises(NoWalk, {"value": value}, Places, value, None)
        for value in [None, True, 0, "", "o", {}, {("o",): 1}, b"", object(), Places(shop_walk())]:
            self.raises(InvalidPlace, {"value": value}, Places, shop_walk(), value)
        for value in NO_PLACES:
            self.raises(InvalidPlace, {"value": value}, Places, shop_walk(), [("o",), value, None])

    def test_what_was_passed_and_returned_can_be_changed(self):
        rows = [("o",)]
        places = Places(shop_walk(), rows)
        rows.append(("c",))
        places.rows().append(("c",))
        self.assertEqual(places.rows(), [("o",)])

    def test_too_many(self):
        walk = wide_walk()
        rows = many_rows(walk, "x") + many_rows(walk, "y")
        self.assertEqual(len(Places(walk, rows[:2000])), 2000)
        self.assertEqual(len(Places(walk, rows[:2000] + rows[:500])), 2000)
        self.raises(TooMany, {"what": "places", "limit": 2000}, Places, walk, rows[:2001])
        self.raises(InvalidPlace, {"value": None}, Places, walk, rows + [None])

    def test_in(self):
        places = Places(shop_walk(), [("o",), ("o", "buyer")])
        self.assertIs(("o", "buyer") in places, True)
        for value in NO_PLACES + [("c",), ("o", "place"), ["o", "buyer"], [("o",)], places]:
            self.assertIs(value in places, False)

    def test_equality(self):
        rows = [("o",), ("o", "buyer")]
        one = Places(shop_walk(), rows)
        self.assertEqual(one, Places(shop_walk(), rows[::-1]))
        self.assertEqual(one, Places(deep_walk(), rows))
        self.assertNotEqual(one, Places(shop_walk(), rows[:1]))
        self.assertNotEqual(one, Places(Walk(shop_schema(), [("find", "o", "order", "many", ())]), rows))
        other = Schema(["order", "customer", "shop"], shop_schema().fields(), {"u": "shop"})
        self.assertNotEqual(one, Places(Walk(other, [("find", "o", "order", "many", ()), ("find", "c", "customer", "one", ())]), rows))
        for value in ODD + [rows, tuple(rows)]:
            self.assertFalse(one == value)


class Joined(PlaceTest):
    def setUp(self):
        self.one = Places(shop_walk(), [("o",), ("o", "buyer"), ("c",)])
        self.other = Places(deep_walk(), [("o", "place"), ("o", "buyer")])

    def test_signs(self):
        self.assertEqual((self.one | self.other).rows(), [("c",), ("o",), ("o", "buyer"), ("o", "place")])
        self.assertEqual((self.one & self.other).rows(), [("o", "buyer")])
        self.assertEqual((self.one - self.other).rows(), [("c",), ("o",)])
        self.assertEqual((self.other - self.one).rows(), [("o", "place")])
        self.assertEqual((self.one - self.one).rows(), [])
        self.assertEqual(len(self.one), 3)

    def test_parts(self):
        self.assertIs((self.one & self.other).is_part_of(self.one), True)
        self.assertIs(self.one.is_part_of(other=self.one), True)
        self.assertIs(self.one.is_part_of(self.other), False)
        self.assertIs(Places(shop_walk()).is_part_of(self.other), True)

    def test_errors(self):
        asks = [lambda one, other: one | other, lambda one, other: one & other, lambda one, other: one - other,
                lambda one, other: one.is_part_of(other)]
        fewer = Walk(shop_schema(), [("find", "o", "order", "many", ())])
        finds = [("o", "order", "many"), ("c", "customer", "one")]
        for ask in asks:
            for value in ODD + [self.one.rows(), shop_walk()]:
                self.raises(InvalidPlaces, {"value": value}, ask, self.one, value)
            self.raises(OtherSchema, {}, ask, self.one, Places(rich_walk()))
            self.raises(OtherFinds, {"one": finds, "other": finds[:1]}, ask, self.one, Places(fewer))
            self.raises(OtherFinds, {"one": finds[:1], "other": finds}, ask, Places(fewer), self.one)
        turned = Walk(shop_schema(), [("find", "c", "customer", "one", ()), ("find", "o", "order", "many", ())])
        self.raises(OtherFinds, {"one": finds, "other": finds[::-1]}, asks[0], self.one, Places(turned))

    def test_too_many(self):
        walk = wide_walk()
        one, other = Places(walk, many_rows(walk, "x")), Places(walk, many_rows(walk, "y")[:977])
        self.raises(TooMany, {"what": "places", "limit": 2000}, lambda: one | other)
        self.assertEqual(len(one | Places(walk, other.rows()[:976])), 2000)


class Parts(PlaceTest):
    def setUp(self):
        rows = [("o",), ("o", "buyer"), ("o", "buyer", "orders", "place"), ("o", "place"), ("c", "orders"), ("c", "orders", "place")]
        self.places = Places(shop_walk(), rows)

    def test_of_find(self):
        self.assertEqual(self.places.of_find("c").rows(), [("c", "orders"), ("c", "orders", "place")])
        self.assertEqual(len(self.places.of_find(name="o")), 4)
        for value in ODD + ["x", "buyer", ("o",), b"o"]:
            self.raises(UnknownFind, {"value": value}, self.places.of_find, value)

    def test_ending(self):
        self.assertEqual(self.places.ending("place").rows(), [("c", "orders", "place"), ("o", "buyer", "orders", "place"), ("o", "place")])
        self.assertEqual(self.places.ending(link="orders").rows(), [("c", "orders")])
        self.assertEqual(Places(shop_walk()).ending("buyer").rows(), [])
        for value in ODD + ["o", "c", "order", ("o", "place")]:
            self.raises(UnknownLink, {"value": value}, self.places.ending, value)

    def test_a_find_with_the_name_of_a_link(self):
        walk = Walk(rich_schema(), [("find", "f", "b", "many", ())])
        self.assertEqual(Places(walk, [("f",), ("f", "l")]).ending("f").rows(), [])

    def test_below(self):
        self.assertEqual(self.places.below(("o", "buyer")).rows(), [("o", "buyer"), ("o", "buyer", "orders", "place")])
        self.assertEqual(self.places.below(place=("c",)).rows(), [("c", "orders"), ("c", "orders", "place")])
        self.assertEqual(self.places.below(("o", "place")).rows(), [("o", "place")])
        for value in NO_PLACES:
            self.raises(InvalidPlace, {"value": value}, self.places.below, value)

    def test_closed(self):
        self.assertIs(self.places.is_closed, False)
        self.assertIs((self.places | Places(shop_walk(), [("c",), ("o", "buyer", "orders")])).is_closed, True)
        self.assertIs(Places(shop_walk()).is_closed, True)
        self.assertIs(Places(shop_walk(), [("o", "buyer")]).is_closed, False)


class Touched(PlaceTest):
    def test_routes_that_turn_back(self):
        walk = deep_walk()
        self.assertEqual(touched_places(walk).rows(), [
            ("c",), ("o",), ("o", "buyer"), ("o", "buyer", "orders"), ("o", "buyer", "orders", "place"), ("o", "place")])
        self.assertEqual(looped_places(walk), [(("o", "buyer"), "orders")])
        self.assertEqual(places_at(walk, (0, 0, 0, 0)).rows(), [("o", "buyer", "orders", "place"), ("o", "place")])
        self.assertEqual(places_at(walk=walk, spot=(1,)).rows(), [("c",)])

    def test_a_single_field_and_its_own_list(self):
        walk = rich_walk(("go", "x", "g", "y", (("for", "y", "m", "z", (("go", "z", "f", "w", ()),)),)))
        self.assertEqual(touched_places(walk).rows(), [("x",), ("x", "f"), ("x", "g")])
        self.assertEqual(looped_places(walk), [(("x", "g"), "m")])

    def test_at_once_and_several_times(self):
        inner = ("for", "z", "k", "w", (("for", "w", "k", "v", ()),))
        walk = rich_walk(("go", "x", "p", "y", (("go", "y", "p", "z", (inner,)),)))
        self.assertEqual(places_at(walk, (0, 0, 0, 0, 0)).rows(), [("x",), ("x", "p", "k"), ("x", "p", "p", "k", "k")])
        self.assertEqual(looped_places(walk), [(("x", "p"), "k"), (("x", "p", "p"), "k"), (("x", "p", "p", "k"), "k")])

    def test_a_loop_about_several_places(self):
        body = ("go", "x", "f", "y", (("for", "y", "l", "z", (("for", "z", "k", "w", ()),)),))
        self.assertEqual(looped_places(rich_walk(body)), [
            (("x",), "k"), (("x", "f"), "l"), (("x", "f", "l"), "k")])

    def test_blocks_and_tests(self):
        blocks = [("block", "t", "a", "v", (("if", "v", "u", (("go", "v", "f", "w", ()),)),))]
        walk = Walk(rich_schema(), [("find", "x", "a", "one", (("call", "t", "x"), ("for", "x", "k", "y", (("call", "t", "y"),))))], blocks)
        self.assertEqual(touched_places(walk).rows(), [("x",), ("x", "f"), ("x", "k"), ("x", "k", "f")])

    def test_errors(self):
        for value in ODD + [shop_schema()]:
            for ask in (touched_places, looped_places, place_table):
                self.raises(NoWalk, {"value": value}, ask, value)
            self.raises(NoWalk, {"value": value}, places_at, value, None)
        walk = deep_walk()
        for value in ODD + [[0], (True,), (False,), (2,), (0, 1), (0, False), "0", [0, 0]]:
            self.raises(UnknownSpot, {"value": value}, places_at, walk, value)
        tests = rich_walk(("if", "x", "u", ()))
        self.raises(UnknownSpot, {"value": (0, 0)}, places_at, tests, (0, 0))

    def test_as_slow_reductions_tell(self):
        chance = random.Random(13)
        for _ in range(200):
            walk = chance_walk(chance, chance_schema(chance), chance_finds(chance), True)[0]
            touched, looped = set(), set()
            for spot in walk.spots():
                self.assertEqual(places_at(walk, spot).rows(), reductions(walk, walk.route(spot)))
                touched |= set(reductions(walk, walk.route(spot)))
            for loop in walk.loops():
                looped |= {(place, walk.statement(loop)[2]) for place in reductions(walk, walk.route(walk.owner_of(loop)))}
            self.assertEqual([touched_places(walk).rows(), looped_places(walk)], [sorted(touched), sorted(looped)])
            self.assertTrue(touched_places(walk).is_closed)


class Kept(PlaceTest):
    def test_late_links_lead_nowhere(self):
        self.assertEqual(kept_places(deep_walk(), Plan(shop_schema())), touched_places(deep_walk()))

    def test_words_along_and_ahead(self):
        for words in ({"buyer": "along", "place": "ahead"}, {"buyer": "ahead", "place": "along"}):
            self.assertEqual(kept_places(shop_walk(), Plan.of(shop_schema(), **words)).rows(), [
                ("c",), ("o",), ("o", "buyer"), ("o", "place")])
        plan = Plan.of(shop_schema(), buyer="along", orders="ahead", place="along")
        self.assertEqual(kept_places(walk=shop_walk(), plan=plan).rows(), [
            ("c",), ("c", "orders"), ("c", "orders", "place"), ("o",), ("o", "buyer"), ("o", "buyer", "orders"),
            ("o", "buyer", "orders", "place"), ("o", "place")])

    def test_a_single_field_and_its_list(self):
        plan = Plan.of(rich_schema(), g="along", m="along")
        self.assertEqual(kept_places(rich_walk(), plan).rows(), [("x",), ("x", "g")])
        walk = Walk(rich_schema(), [("find", "y", "b", "one", ())])
        self.assertEqual(kept_places(walk, plan).rows(), [("y",), ("y", "m")])

    def test_errors_in_their_sequence(self):
        for value in ODD + [shop_schema(), shop_walk()]:
            if not isinstance(value, Walk):
                self.raises(NoWalk, {"value": value}, kept_places, value, value)
            self.raises(InvalidPlan, {"value": value}, kept_places, shop_walk(), value)
        self.raises(OtherSchema, {}, kept_places, shop_walk(), Plan(rich_schema()))

    def test_just_passed_and_just_not(self):
        plan = Plan.of(layered_schema(), **layered_words("ahead"))
        finds = [("find", "x", "a", "many", tree_body(100))]
        walk = Walk(layered_schema(), finds)
        self.assertEqual([len(walk), len(touched_places(walk)), len(kept_places(walk, plan))], [100, 100, 2000])
        walk = Walk(layered_schema(), finds + [("find", "y", "e", "one", ())])
        self.raises(TooMany, {"what": "places", "limit": 2000}, kept_places, walk, plan)
        self.assertEqual(len(kept_places(walk, Plan.of(layered_schema(), f="along"))), 201)

    def test_many_fields_and_finds(self):
        kinds = "abcdef"
        fields = {one + letter: (one, other, None, False) for one, other in zip(kinds, kinds[1:]) for letter in "vw"}
        fields.update({"ax": ("a", "b", None, False), "bx": ("b", "c", None, False)})
        walk = Walk(Schema(list(kinds), fields), [("find", letter, "a", "many", ()) for letter in "wxyz"])
        plan = Plan.of(walk.schema, **{link: "along" for link in walk.schema.links()})
        self.assertEqual(len(kept_places(walk, plan)), 4 * (1 + 3 + 9 + 18 + 36 + 72))


class Tables(PlaceTest):
    def setUp(self):
        self.walk = deep_walk()
        self.table = {
            (0,): [("o",)], (0, 0): [("o", "buyer")], (0, 0, 0): [("o",), ("o", "buyer", "orders")],
            (0, 0, 0, 0): [("o", "buyer", "orders", "place"), ("o", "place")], (1,): [("c",)],
        }

    def test_table(self):
        self.assertEqual(place_table(self.walk), self.table)
        self.assertEqual(list(place_table(walk=self.walk)), sorted(self.table))
        place_table(self.walk)[(0,)].clear()
        self.assertEqual(place_table(self.walk), self.table)

    def test_right_tables(self):
        self.assertIs(is_place_table(self.walk, self.table), True)
        self.assertIs(is_place_table(walk=self.walk, value={spot: tuple(self.table[spot]) for spot in self.table}), True)
        self.assertIs(is_place_table(self.walk, dict(reversed(self.table.items()))), True)

    def test_spoilt_tables(self):
        spoilt = [
            {**self.table, (0,): []}, {**self.table, (0,): [("o",), ("o",)]}, {**self.table, (2,): [("o",)]},
            {**self.table, (0,): [["o"]]}, {**self.table, (0,): None}, {**self.table, (0,): "o"}, {**self.table, (0,): [None]},
            {**self.table, (0, 0, 0): [("o", "buyer", "orders"), ("o",)]}, {**self.table, (0,): {("o",): 1}},
            {**self.table, (0, 0, 0): [("o",)]}, {**self.table, (0, 0): [("o", ["buyer"])]}, {**self.table, (1,): [("o",)]},
        ]
        without = {spot: self.table[spot] for spot in self.table if spot != (1,)}
        spoilt += [without, {**without, (True,): [("c",)]}, {**without, "1": [("c",)]}, {**without, 1: [("c",)]},
                   {**without, None: [("c",)]}, {**without, (1, 0): [("c",)]}]
        for value in spoilt + ODD + [list(self.table.items()), self.walk]:
            self.assertIs(is_place_table(self.walk, value), False)

    def test_no_walk(self):
        for value in ODD:
            self.raises(NoWalk, {"value": value}, is_place_table, value, self.table)


class Shown(PlaceTest):
    def turning_walk(self):
        """Two lists that come to places that end in their own fields, and one of a single field."""
        last = ("for", "w", "l", "v", (("go", "v", "g", "t", (("for", "t", "m", "s", ()),)),))
        return rich_walk(("go", "x", "p", "y", (("for", "y", "k", "z", (("go", "z", "f", "w", (last,)),)),)))

    def test_choices(self):
        walk = self.turning_walk()
        spot = (0, 0, 0, 0, 0, 0, 0)
        ends = {("same", "same"): ("x",), ("same", "another"): ("x", "f", "l"), ("another", "same"): ("x", "p", "k"),
                ("another", "another"): ("x", "p", "k", "f", "l")}
        for choices in ends:
            for value in ((spot, list(choices)), (spot, choices)):
                self.assertIs(shows_place(walk, ends[choices], value), True)
                for other in ends:
                    self.assertIs(shows_place(walk=walk, place=ends[other], value=value), other == choices)

    def test_why(self):
        walk = self.turning_walk()
        for place in touched_places(walk).rows():
            value = why_place(walk, place)
            self.assertIs(shows_place(walk, place, value), True)
            self.assertEqual([type(value), type(value[0]), type(value[1])], [tuple, tuple, list])
        self.assertEqual(why_place(walk=deep_walk(), place=("o", "place")), ((0, 0, 0, 0), ["same"]))
        self.assertEqual(why_place(deep_walk(), ("o",))[0] in [(0,), (0, 0, 0)], True)

    def test_places_that_are_not_touched(self):
        for place in [("c", "orders"), ("o", "buyer", "orders", "place")]:
            self.assertIsNone(why_place(shop_walk(), place))
            for value in [((0,), []), ((0,), ["same"]), None]:
                self.assertIs(shows_place(shop_walk(), place, value), False)

    def test_spoilt_values(self):
        walk, place = deep_walk(), ("o", "place")
        spot = (0, 0, 0, 0)
        self.assertIs(shows_place(walk, place, (spot, ["same"])), True)
        spoilt = [(spot, []), (spot, ["another"]), (spot, ["same", "same"]), (spot, ["Same"]), (spot, "same"), (spot, None),
                  (spot, [None]), (spot, [["same"]]), (spot, {"same": 1}), (spot, ["same"], None), (spot,), [spot, ["same"]],
                  ((0, 0, 0), ["same"]), (list(spot), ["same"]), ((False, 0, 0, 0), ["same"]), (None, ["same"]), ((0, 0, 0, 1), ["same"]),
                  ((9,), ["same"]), (("o", "place"), ["same"]), (spot, [b"same"]), (spot, [True])]
        for value in spoilt + ODD:
            self.assertIs(shows_place(walk, place, value), False)
        # A path that is no spot, and a list with no choice.
        tests = rich_walk(("if", "x", "u", (("go", "x", "g", "y", (("for", "y", "m", "z", ()),)),)))
        self.assertIs(shows_place(tests, ("x",), ((0, 0), [])), False)
        self.assertIs(shows_place(tests, ("x",), ((0, 0, 0, 0), [])), True)
        self.assertIs(shows_place(tests, ("x",), ((0, 0, 0, 0), ["same"])), False)

    def test_errors(self):
        for value in NO_PLACES:
            self.raises(InvalidPlace, {"value": value}, why_place, shop_walk(), value)
            self.raises(InvalidPlace, {"value": value}, shows_place, shop_walk(), value, None)
            self.raises(InvalidPlace, {"value": value}, lambda: next(prefixes(shop_walk(), value)))
        for value in ODD:
            self.raises(NoWalk, {"value": value}, why_place, value, None)
            self.raises(NoWalk, {"value": value}, shows_place, value, None, None)
            self.raises(NoWalk, {"value": value}, lambda: next(prefixes(value, None)))

    def test_prefixes(self):
        going = prefixes(shop_walk(), ("o", "buyer", "orders"))
        self.assertEqual(next(going), ("o",))
        self.assertEqual(list(going), [("o", "buyer"), ("o", "buyer", "orders")])
        self.assertEqual(list(prefixes(walk=shop_walk(), place=("c",))), [("c",)])

    def test_by_chance(self):
        chance = random.Random(14)
        for _ in range(60):
            schema, finds = chance_schema(chance), chance_finds(chance)
            walk, other = [chance_walk(chance, schema, finds, False)[0] for _ in range(2)]
            touched = touched_places(walk)
            self.assertTrue(is_place_table(walk, place_table(walk)))
            self.assertEqual(is_place_table(walk, place_table(other)), place_table(walk) == place_table(other))
            for place in (touched | touched_places(other)).rows():
                value = why_place(walk, place)
                self.assertEqual(value is not None, place in touched)
                self.assertEqual(shows_place(walk, place, value), place in touched)
            # All values that show a place, of all spots and choices.
            for spot in walk.spots():
                shown = set()
                for many in range(5):
                    for choices in itertools.product(("same", "another"), repeat=many):
                        shown |= {place for place in touched.rows() if shows_place(walk, place, (spot, choices))}
                self.assertEqual(sorted(shown), places_at(walk, spot).rows())


class Closed(PlaceTest):
    def test_kept_places_by_chance(self):
        chance = random.Random(15)
        for _ in range(200):
            schema, finds = chance_schema(chance), chance_finds(chance)
            walk, plan = chance_walk(chance, schema, finds, False)[0], chance_plan(chance, schema)
            kept = kept_places(walk, plan)
            self.assertTrue(touched_places(walk).is_part_of(kept) and kept.is_closed)
            for place in kept.rows():
                for link in schema.links_from(self.kind(walk, place)):
                    if link in plan:
                        self.assertTrue(Places(walk, leads(walk, place, link)).is_part_of(kept))
            # No more than that: each place is touched, or there is a link that leads to it.
            for place in (kept - touched_places(walk)).rows():
                self.assertTrue(place[:-1] in kept and place[-1] in plan)

    def kind(self, walk, place):
        if len(place) == 1:
            return dict((name, kind) for name, kind, _ in walk.finds())[place[0]]
        return walk.schema.target_of(place[-1])


if __name__ == "__main__":
    unittest.main()
