"""Claims, their certificates, and how these are held to the claims."""

import random
import unittest

from chance import chance_finds, chance_plan, chance_schema, chance_sizes, chance_walk, wide_schema
from fetchwalks.early import bound, bounded_plan
from fetchwalks.errors import InvalidClaim, LinkRing
from fetchwalks.judge import KINDS, certificate_of, is_certificate, is_claim
from fetchwalks.numbers import first_growing, most, most_kept, weight
from fetchwalks.places import place_table, places_at
from fetchwalks.plans import Plan
from fetchwalks.runs import looped_lists, touched
from fetchwalks.schemas import Schema
from fetchwalks.sizes import Sizes
from fetchwalks.walkpairs import are_maps, is_parting, is_within
from fetchwalks.walks import Walk
from samples import ODD, layered_schema, layered_words, rich_schema, shop_schema, tree_body

DEEP = ("go", "o", "buyer", "c", (("for", "c", "orders", "p", (("go", "p", "place", "s", ()),)),))
GO_PLACE = ("go", "o", "place", "s", ())


def shop_walk(*body, word="many", name="o"):
    return Walk(shop_schema(), [("find", name, "order", word, body)])


def shop_plan(**words):
    return Plan.of(shop_schema(), **words)


def rich_walk(*body, kind="a", word="many"):
    return Walk(rich_schema(), [("find", "x", kind, word, body)])


class JudgeTest(unittest.TestCase):
    def setUp(self):
        self.walk, self.late = shop_walk(DEEP), shop_plan()
        self.sizes = Sizes.of(self.walk, ("find", "o", 3), ("list", "orders", 4))

    def raises(self, error, attributes, ask, *arguments):
        with self.assertRaises(error) as caught:
            ask(*arguments)
        self.assertEqual(vars(caught.exception), attributes)

    def shown(self, claim, truth):
        """Checks that the claim is true or not, and tells its certificate."""
        self.assertTrue(is_claim(claim))
        found = certificate_of(claim)
        self.assertEqual(found is not None, truth)
        if truth:
            self.assertIs(is_certificate(claim, found), True)
        for value in ODD:
            self.assertIs(is_certificate(claim, value), False)
        return found


class Claims(JudgeTest):
    def test_kinds(self):
        self.assertEqual(KINDS, ("most", "keeps", "grows", "bounded", "within", "apart"))

    def right(self):
        walk, late, sizes = self.walk, self.late, self.sizes
        return [("most", walk, late, sizes, 19), ("most", walk, late, sizes, 0), ("keeps", walk, late, sizes, 10 ** 400),
                ("grows", walk, late),
                ("bounded", walk, late, 0), ("bounded", walk, late, 5), ("within", walk, shop_walk()), ("apart", walk, walk)]

    def test_right_ones(self):
        for claim in self.right():
            self.assertIs(is_claim(claim), True)
            self.assertIs(is_claim(value=claim), True)

    def test_any_values(self):
        values = ODD + list(KINDS) + [("most",), ("grows",), ("most", None), ("walk", self.walk, self.late), self.walk,
                                      ("Grows", self.walk, self.late)]
        others = ODD + [self.walk, self.late, self.sizes, shop_schema(), -1, "19", b"1", 3, rich_walk(), Plan(rich_schema()),
                        Sizes(rich_walk())]
        for claim in self.right():
            values += [list(claim), claim + (1,), claim + (self.walk,), claim[:-1], claim[1:], (claim[0].upper(),) + claim[1:],
                       (None,) + claim[1:]]
            for position in range(len(claim)):
                for other in others:
                    if not self.fits(claim, position, other):
                        values.append(claim[:position] + (other,) + claim[position + 1:])
        for value in values:
            self.assertIs(is_claim(value), False, value)
            self.raises(InvalidClaim, {"value": value}, certificate_of, value)
            self.raises(InvalidClaim, {"value": value}, is_certificate, value, None)

    def fits(self, claim, position, other):
        """Whether the claim stays one with the other value at this position."""
        if position > 0 and isinstance(claim[position], int):
            return type(other) is int and other >= 0
        return other in (self.walk, self.late, self.sizes) and type(other) is type(claim[position])

    def test_other_finds_and_schemas(self):
        for other in (shop_walk(name="p"), shop_walk(word="one"), shop_walk() | shop_walk(name="p"), rich_walk()):
            self.assertFalse(is_claim(("most", self.walk, self.late, Sizes(other), 1)))
            self.assertFalse(is_claim(("most", other, self.late, self.sizes, 1)))
            self.assertFalse(is_claim(("within", self.walk, other)))
            self.assertFalse(is_claim(("apart", other, self.walk)))
        twin = Schema(shop_schema().kinds(), shop_schema().fields(), {"u": "shop"})
        self.assertFalse(is_claim(("grows", self.walk, Plan(twin))))
        self.assertFalse(is_claim(("bounded", self.walk, Plan(twin), 1)))
        self.assertTrue(is_claim(("grows", self.walk, Plan(Schema(["shop", "customer", "order"], shop_schema().fields())))))


class Numbers(JudgeTest):
    def test_of_the_document(self):
        for word, number in (("most", 19), ("keeps", 27)):
            told = self.shown((word, self.walk, self.late, self.sizes, number), True)
            self.assertEqual(told, place_table(self.walk))
            for wrong in (number - 1, number + 1, 0):
                self.shown((word, self.walk, self.late, self.sizes, wrong), False)

    def test_bounded(self):
        for words, number in (({"buyer": "along", "orders": "along", "place": "along"}, 1),
                              ({"buyer": "ahead", "orders": "ahead", "place": "ahead"}, 5)):
            plan = shop_plan(**words)
            self.shown(("bounded", self.walk, plan, number), True)
            self.shown(("bounded", self.walk, plan, number + 1), False)
            self.shown(("grows", self.walk, plan), False)
        for number in (0, 1, 5):
            self.shown(("bounded", self.walk, self.late, number), False)

    def test_a_table_does_not_make_a_number_true(self):
        table = place_table(self.walk)
        claims = [("most", self.walk, self.late, self.sizes, 19), ("keeps", self.walk, self.late, self.sizes, 27),
                  ("bounded", self.walk, shop_plan(buyer="along", orders="along", place="along"), 1)]
        for claim in claims:
            self.assertTrue(is_certificate(claim, table))
            self.assertTrue(is_certificate(claim, {spot: tuple(rows) for spot, rows in table.items()}))
            self.assertFalse(is_certificate(claim[:-1] + (claim[-1] + 1,), table))

    def test_spoilt_tables(self):
        claim, table = ("most", self.walk, self.late, self.sizes, 19), place_table(self.walk)
        spoilt = [{}, list(table), list(table.items()), {spot: table[spot] for spot in list(table)[1:]}, {**table, (0, 1): []}]
        for spot in table:
            for rows in (table[spot][1:], table[spot] * 2, table[spot] + [("o", "place", "x")], None, 1,
                         {place: True for place in table[spot]}, [list(place) for place in table[spot]]):
                spoilt.append({**table, spot: rows})
        spoilt.append({(False,) if spot == (0,) else spot: table[spot] for spot in table})
        spoilt.append({**{spot: table[spot] for spot in table if spot != (0, 0)}, (0, False): table[0, 0]})
        for value in spoilt:
            self.assertIs(is_certificate(claim, value), False)

    def test_what_was_told_can_be_changed(self):
        claim = ("most", self.walk, self.late, self.sizes, 19)
        told = certificate_of(claim)
        told[0, 0].clear()
        self.assertEqual(certificate_of(claim), place_table(self.walk))
        self.sizes["find", "o"] = 4
        self.assertIsNone(certificate_of(claim))
        self.late["buyer"] = "along"
        self.assertEqual(certificate_of(claim[:-1] + (21,)), place_table(self.walk))


class Growing(JudgeTest):
    def check(self, walk, plan):
        """Checks the certificate by the words of the document, if some class grows."""
        claim = ("grows", walk, plan)
        growing = first_growing(walk, plan)
        told = self.shown(claim, growing is not None)
        if told is None:
            return None
        self.assertIs(type(told), tuple)
        spot, choices = told
        self.assertIs(type(choices), list)
        head = walk.statement(spot)
        self.assertEqual([head[0] in ("go", "for"), plan[head[2]]], [True, "late"])
        self.assertTrue(is_certificate(claim, (spot, tuple(choices))))
        for wrong in ((spot, choices + ["same"]), (spot, choices[1:] if choices else ["another"]), [spot, choices], (spot,),
                      (spot, choices, 1), (spot, None), (None, choices),
                      (list(spot), choices), (spot, [None] * len(choices) + [None]), (spot, {choice: 1 for choice in choices} or {1: 1}),
                      ((9,), choices), (spot[:1], choices),
                      ((False,) * len(spot), choices), (spot, "same"), (spot, [["same"]])):
            self.assertIs(is_certificate(claim, wrong), False)
        return told

    def test_go(self):
        self.assertEqual(self.check(shop_walk(GO_PLACE), self.late), ((0, 0), []))
        self.assertEqual(self.check(shop_walk(GO_PLACE), shop_plan(place="along")), None)
        self.assertEqual(self.check(shop_walk(GO_PLACE, word="one"), self.late), None)

    def test_for(self):
        walk = Walk(shop_schema(), [("find", "o", "customer", "many", (("for", "o", "orders", "p", ()),))])
        self.assertEqual(self.check(walk, self.late), ((0, 0), []))
        self.assertEqual(self.check(walk, shop_plan(orders="ahead")), None)

    def test_only_growing_places(self):
        walk = Walk(shop_schema(), [("find", "o", "customer", "one", (("for", "o", "orders", "p", (("go", "p", "place", "s", ()),)),))])
        self.assertEqual(self.check(walk, self.late), ((0, 0, 0), []))
        claim = ("grows", walk, self.late)
        # The list is asked for once only.
        self.assertFalse(is_certificate(claim, ((0, 0), [])))

    def test_choices(self):
        walk = shop_walk(DEEP)
        claim = ("grows", walk, self.late)
        self.check(walk, self.late)
        for choices in (["same"], ["another"]):
            self.assertTrue(is_certificate(claim, ((0, 0, 0, 0), choices)))
        for choices in ([], ["same", "same"], ["other"], ["Same"]):
            self.assertFalse(is_certificate(claim, ((0, 0, 0, 0), choices)))
        # The list is told by the way to its owner, so without a choice.
        self.assertTrue(is_certificate(claim, ((0, 0, 0), [])))
        self.assertFalse(is_certificate(claim, ((0, 0, 0), ["same"])))
        walk = shop_walk(DEEP, word="one")
        claim = ("grows", walk, self.late)
        # Here the shop of the same order is one only.
        self.assertEqual(self.check(walk, self.late), ((0, 0, 0, 0), ["another"]))
        self.assertFalse(is_certificate(claim, ((0, 0, 0, 0), ["same"])))
        self.assertEqual([weight(walk, place).constant for place in places_at(walk, (0, 0, 0, 0)).rows()], [None, 1])

    def test_places_that_end_otherwise(self):
        # Behind the other members their field leads back, to a place that does not end in it, or in it by chance.
        walk = Walk(shop_schema(), [("find", "o", "customer", "many", (("for", "o", "orders", "p", (("go", "p", "buyer", "c", ()),)),))])
        plan = shop_plan(orders="along")
        self.assertEqual(self.check(walk, plan), None)
        self.assertFalse(is_certificate(("grows", walk, plan), ((0, 0, 0), [])))
        back = ("go", "o", "buyer", "c", (("for", "c", "orders", "p", (("go", "p", "buyer", "d", ()),)),))
        claim = ("grows", shop_walk(back), shop_plan(orders="along"))
        for choices in (["same"], ["another"]):
            self.assertTrue(is_certificate(claim, ((0, 0, 0, 0), choices)))

    def test_a_find_with_the_name_of_a_field(self):
        walk = Walk(shop_schema(), [("find", "buyer", "customer", "many",
                                     (("for", "buyer", "orders", "p", (("go", "p", "buyer", "c", ()),)),))])
        self.assertFalse(is_certificate(("grows", walk, shop_plan(orders="along")), ((0, 0, 0), [])))
        self.assertIsNone(certificate_of(("grows", walk, shop_plan(orders="along"))))

    def test_by_chance(self):
        chance = random.Random(95)
        told = {True: 0, False: 0, "go": 0, "for": 0, "choices": 0}
        for number in range(300):
            schema = chance_schema(chance) if number % 2 else wide_schema(chance)
            walk, _, _ = chance_walk(chance, schema, chance_finds(chance, schema.kinds()), True)
            plan = chance_plan(chance, schema)
            if number % 3 == 0:
                try:
                    plan = bounded_plan(walk)
                except LinkRing:
                    pass
            found = self.check(walk, plan)
            told[found is not None] += 1
            if found is not None:
                told[walk.statement(found[0])[0]] += 1
                told["choices"] += len(found[1]) > 0
            self.assertEqual(found is None, bound(walk, plan) is not None)
        self.assertGreater(min(told[True], told[False], told["go"], told["for"]), 10)


class Pairs(JudgeTest):
    def test_within(self):
        more, less = shop_walk(DEEP, GO_PLACE), shop_walk(GO_PLACE)
        found = self.shown(("within", less, more), True)
        self.assertTrue(are_maps(less, more, found))
        self.shown(("within", more, less), False)
        self.shown(("apart", less, more), False)
        self.shown(("within", more, more), True)

    def test_apart(self):
        more, less = shop_walk(DEEP, GO_PLACE), shop_walk(GO_PLACE)
        store, roots, thing = self.shown(("apart", more, less), True)
        self.assertTrue(is_parting(more, less, (store, roots, thing)))
        # What parts them has a side.
        self.assertFalse(is_certificate(("apart", less, more), (store, roots, thing)))
        one, other = shop_walk(GO_PLACE), shop_walk(("go", "o", "buyer", "c", ()))
        found, back = [self.shown(("apart",) + pair, True) for pair in ((one, other), (other, one))]
        self.assertEqual([is_certificate(("apart", one, other), value) for value in (found, back)], [True, False])
        self.assertEqual([is_certificate(("apart", other, one), value) for value in (found, back)], [False, True])
        self.assertEqual([found[2][1], back[2][1]], ["shop", "customer"])

    def test_apart_by_a_list(self):
        one, other = [rich_walk(("go", "x", "g", "y", body)) for body in ((("for", "y", "m", "z", ()),), ())]
        _, _, thing = self.shown(("apart", one, other), True)
        self.assertEqual(thing, ("list", "m", 1))
        self.shown(("apart", other, one), False)

    def test_spoilt(self):
        one, other = shop_walk(GO_PLACE), shop_walk()
        claim = ("apart", one, other)
        store, roots, thing = certificate_of(claim)
        for value in [[store, roots, thing], (store, roots), (store, roots, thing, 1), (store, {}, thing), (None, roots, thing),
                      (store, roots, ("object", "shop", True)),
                      (store, roots, ("object", "order", 1)), (store, roots, ("list", "shop", 1)), (store, {"o": []}, thing),
                      (store, roots, None)]:
            self.assertIs(is_certificate(claim, value), False)
        claim = ("within", other, one)
        value = certificate_of(claim)
        self.assertFalse(is_certificate(claim, {**value, ("list", (0,)): ((0,), {})}))
        self.assertFalse(is_certificate(claim, list(value.items())))
        self.assertFalse(is_certificate(("within", one, other), value))

    def test_by_chance(self):
        chance = random.Random(96)
        told = {True: 0, False: 0}
        for _ in range(300):
            schema, finds = chance_schema(chance), chance_finds(chance)
            one, other = [chance_walk(chance, schema, finds, True)[0] for _ in range(2)]
            if chance.random() < 0.3:
                other = other + one
            wanted = is_within(one, other)
            told[wanted] += 1
            self.shown(("within", one, other), wanted)
            found = self.shown(("apart", one, other), not wanted)
            if found is not None:
                store, roots, (word, name, number) = found
                ask = touched if word == "object" else looped_lists
                self.assertEqual([(name, number) in ask(walk, store, roots) for walk in (one, other)], [True, False])
        self.assertGreater(min(told.values()), 50)


class Together(JudgeTest):
    def test_a_certificate_of_one_claim_for_another(self):
        more, less = shop_walk(DEEP, GO_PLACE), shop_walk(GO_PLACE)
        bounded = shop_plan(buyer="along", orders="along", place="along")
        claims = [
            ("most", self.walk, self.late, self.sizes, 19), ("keeps", less, self.late, Sizes(less), 2), ("grows", self.walk, self.late),
            ("bounded", more, bounded, 1), ("within", less, more), ("within", self.walk, more), ("apart", more, less),
        ]
        for claim in claims:
            for other in claims:
                self.assertEqual(is_certificate(claim, certificate_of(other)), claim == other)

    def test_by_chance(self):
        chance = random.Random(97)
        for _ in range(100):
            schema = wide_schema(chance)
            walk, _, _ = chance_walk(chance, schema, chance_finds(chance, schema.kinds()), True)
            plan, sizes = chance_plan(chance, schema), chance_sizes(chance, walk)
            asked, kept = most(walk, plan)(sizes), most_kept(walk, plan)(sizes)
            for word, number in (("most", asked), ("keeps", kept)):
                self.shown((word, walk, plan, sizes, number), True)
                self.shown((word, walk, plan, sizes, number + 1), False)
            classes = bound(walk, plan)
            self.shown(("bounded", walk, plan, asked), classes is not None)
            self.shown(("grows", walk, plan), classes is None)
            self.assertIs(is_certificate(value=certificate_of(claim=("most", walk, plan, sizes, asked)),
                                         claim=("most", walk, plan, sizes, asked)), True)

    def test_great_walks(self):
        walk = Walk(layered_schema(), [("find", "x", "a", "many", tree_body(100))])
        plan = Plan.of(layered_schema(), **layered_words("ahead"))
        sizes = Sizes.of(walk, ("find", "x", 10 ** 30))
        self.shown(("most", walk, plan, sizes, 20 + 1980 * 10 ** 30), True)
        self.shown(("keeps", walk, plan, sizes, 2000 * 10 ** 30), True)
        self.assertEqual(self.shown(("grows", walk, plan), True), ((0, 0), []))
        self.shown(("within", walk, walk), True)


if __name__ == "__main__":
    unittest.main()
