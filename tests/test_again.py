"""What is asked again of the same walks: answers stay right, whatever was asked, told or changed in between."""

import random
import unittest

from chance import chance_finds, chance_plan, chance_schema, chance_sizes, chance_walk, wide_schema
from fetchwalks.early import bound, must, unbeaten, used_links
from fetchwalks.errors import InvalidPlace, InvalidPlan, NoWalk, OtherFinds, OtherSchema, TooMany
from fetchwalks.numbers import answer_classes, first_growing, most, most_by_link, most_kept, weight
from fetchwalks.places import kept_places, looped_places, place_table, touched_places
from fetchwalks.plans import Plan
from fetchwalks.schemas import Schema
from fetchwalks.walkpairs import are_alike, are_maps, covers, is_lean, is_parting, is_within, lean, maps, needless, parting
from fetchwalks.walks import Walk
from samples import ODD, layered_schema, layered_words, rich_schema, shop_schema, tree_body

DEEP = ("go", "o", "buyer", "c", (("for", "c", "orders", "p", (("go", "p", "place", "s", ()),)),))
FLAT = ("go", "o", "place", "s", ())
NUMBERS = (most, most_by_link, most_kept, answer_classes, first_growing, kept_places)


def shop_walk(*body, word="many"):
    return Walk(shop_schema(), [("find", "o", "order", word, body)])


def shop_plan(**words):
    return Plan.of(shop_schema(), **words)


def fresh(walk):
    """The same walk, of which nothing has been asked yet."""
    return Walk(walk.schema, walk.find_rows, walk.block_rows)


def numbers_of(walk, plan):
    """All that is told of the numbers of a walk and a plan, as plain values."""
    told = [most(walk, plan).products(), {link: total.products() for link, total in most_by_link(walk, plan).items()}]
    told += [most_kept(walk, plan).products(), [answers_row(answers) for answers in answer_classes(walk, plan)]]
    growing = first_growing(walk, plan)
    told += [growing and answers_row(growing), kept_places(walk, plan).rows(), touched_places(walk).rows(), looped_places(walk),
             place_table(walk)]
    told += [[weight(walk, place).products() for place in touched_places(walk).rows()], must(walk), used_links(walk), bound(walk, plan)]
    return told


def answers_row(answers):
    behind = answers.behind and answers_row(answers.behind)
    return (answers.label, answers.at_place, answers.link_name, answers.times.products(), answers.new.rows(), behind)


def pair_of(one, other):
    """All that is told of two walks, but for what is OPEN, as plain values."""
    told = [[is_within(one, other, lists=lists), are_alike(one, other, lists=lists),
             parting(one, other, lists=lists) is None] for lists in (True, False)]
    told += [covers(one, other), maps(one, other) is None, needless(one), is_lean(one), needless(other)]
    return told


class AgainTest(unittest.TestCase):
    def raises(self, error, attributes, ask, *arguments):
        with self.assertRaises(error) as caught:
            ask(*arguments)
        self.assertEqual(vars(caught.exception), attributes)


class Numbers(AgainTest):
    def test_the_plan_is_changed_in_between(self):
        walk, plan = shop_walk(DEEP), shop_plan()
        for link, word in (("buyer", "along"), ("place", "ahead"), ("buyer", "late"), ("orders", "along"), ("place", "late"),
                           ("orders", "late")):
            self.assertEqual(numbers_of(walk, plan), numbers_of(fresh(walk), plan.copy()))
            plan[link] = word
            self.assertEqual(numbers_of(walk, plan), numbers_of(fresh(walk), plan.copy()))
        plan |= shop_plan(buyer="along", place="along")
        self.assertEqual(numbers_of(walk, plan), numbers_of(fresh(walk), plan.copy()))
        with plan.trial():
            plan["buyer"] = "late"
            self.assertEqual(numbers_of(walk, plan), numbers_of(fresh(walk), shop_plan(place="along")))
        self.assertEqual(numbers_of(walk, plan), numbers_of(fresh(walk), shop_plan(buyer="along", place="along")))

    def test_what_was_told_is_changed_in_between(self):
        walk, plan = shop_walk(DEEP), shop_plan(buyer="ahead")
        wanted = numbers_of(walk, plan)
        most(walk, plan).products().clear()
        most_kept(walk, plan).shifted().clear()
        told = most_by_link(walk, plan)
        told["place"].products().clear()
        told.clear()
        classes = answer_classes(walk, plan)
        classes[0].times.products().clear()
        classes[0].new.rows().clear()
        classes.clear()
        first_growing(walk, plan).new.rows().append(None)
        for rows in (kept_places(walk, plan).rows(), touched_places(walk).rows(), looped_places(walk), must(walk), used_links(walk)):
            rows.clear()
        table = place_table(walk)
        for spot in table:
            table[spot].append(())
        table.clear()
        self.assertEqual(numbers_of(walk, plan), wanted)

    def test_new_each_time(self):
        walk, plan = shop_walk(DEEP), shop_plan(buyer="ahead")
        for ask in (most, most_kept, most_by_link, answer_classes, first_growing, kept_places):
            first, second = ask(walk, plan), ask(walk, plan)
            self.assertEqual(first, second)
            self.assertIsNot(first, second)
        self.assertIsNot(weight(walk, ("o",)), weight(walk, ("o",)))
        self.assertTrue(all([one is not other for one, other in zip(answer_classes(walk, plan), answer_classes(walk, plan))]))
        first, second = most_by_link(walk, plan), most_by_link(walk, plan)
        self.assertTrue(all([first[link] is not second[link] for link in first]))

    def test_two_plans_and_two_walks_by_turns(self):
        walks = [shop_walk(DEEP), shop_walk(FLAT, word="one"), shop_walk(DEEP, FLAT)]
        plans = [shop_plan(), shop_plan(buyer="along"), shop_plan(buyer="along", orders="ahead", place="ahead")]
        wanted = {(one, other): numbers_of(fresh(walks[one]), plans[other].copy()) for one in range(3) for other in range(3)}
        for _ in range(2):
            for one in range(3):
                for other in range(3):
                    self.assertEqual(numbers_of(walks[one], plans[other]), wanted[one, other])
                    self.assertEqual(numbers_of(walks[other], plans[one]), wanted[other, one])

    def test_plans_with_the_same_words(self):
        walk = shop_walk(DEEP)
        first = numbers_of(walk, Plan.of(shop_schema(), buyer="along"))
        twin = Plan(Schema(["shop", "order", "customer"], dict(reversed(shop_schema().fields().items()))))
        twin["place"], twin["buyer"] = "ahead", "along"
        twin["place"] = "late"
        self.assertEqual(numbers_of(walk, twin), first)
        # The same words, but ahead in the place of along, or of another link.
        for words in ({"buyer": "ahead"}, {"place": "along"}, {"buyer": "along", "place": "along"}):
            self.assertNotEqual(numbers_of(walk, shop_plan(**words)), first)

    def test_errors_again(self):
        walk = shop_walk(DEEP)
        numbers_of(walk, shop_plan())
        for ask in NUMBERS:
            for _ in range(2):
                self.raises(NoWalk, {"value": None}, ask, None, None)
                self.raises(InvalidPlan, {"value": walk}, ask, walk, walk)
                self.raises(OtherSchema, {}, ask, walk, Plan(rich_schema()))
        for value in ODD + [("o", "buyer", "orders", "buyer"), ("p",), ["o"]]:
            for _ in range(2):
                self.raises(InvalidPlace, {"value": value}, weight, walk, value)

    def test_too_many_again(self):
        walk = Walk(layered_schema(), [("find", "x", "a", "many", tree_body(101))])
        great, small = Plan.of(layered_schema(), **layered_words("ahead")), Plan(layered_schema())
        for _ in range(3):
            for ask in NUMBERS:
                self.raises(TooMany, {"what": "places", "limit": 2000}, ask, walk, great)
            self.assertEqual(numbers_of(walk, small), numbers_of(fresh(walk), small))
        body = tree_body(100) + (("go", "x", "f", "r", (("for", "r", "m", "s", ()),)),)
        walk = Walk(layered_schema(), [("find", "x", "a", "many", body)])
        for _ in range(3):
            self.assertEqual(len(kept_places(walk, great)), 2000)
            for ask in (most, most_by_link, answer_classes, first_growing):
                self.raises(TooMany, {"what": "classes", "limit": 2000}, ask, walk, great)
            self.assertEqual(most_kept(walk, great), most_kept(fresh(walk), great))

    def test_more_plans_than_are_remembered(self):
        fields = {f"f{letter}": ("a", "b", None, False) for letter in "abcdef"}
        schema = Schema(["a", "b"], fields)
        walk = Walk(schema, [("find", "x", "a", "many", tuple([("go", "x", name, "y", ()) for name in fields]))])
        plans = [Plan.of(schema, **{name: word for at, name in enumerate(fields) if number >> at & 1})
                 for number in range(64) for word in ("along", "ahead")]
        for plan in plans + plans[::-1]:
            ahead = list(plan.words().values()).count("ahead")
            self.assertEqual([len(answer_classes(walk, plan)), most(walk, plan).products()[()]], [7 - len(plan) + ahead, 1 + ahead])

    def test_weights_of_untouched_places(self):
        walk = shop_walk(FLAT)
        for place in (("o",), ("o", "buyer"), ("o", "buyer", "orders"), ("o", "buyer", "orders", "place"), ("o", "place")):
            self.assertEqual(weight(walk, place), weight(shop_walk(DEEP), place))
            self.assertEqual(weight(walk, place), weight(walk, place))

    def test_by_chance(self):
        chance = random.Random(131)
        for number in range(80):
            schema = chance_schema(chance) if number % 2 else wide_schema(chance)
            finds = chance_finds(chance, schema.kinds())
            walks = [chance_walk(chance, schema, finds, True)[0] for _ in range(2)]
            walks.append(walks[0] + walks[1])
            plans = [chance_plan(chance, schema) for _ in range(2)]
            for _ in range(8):
                walk, plan = chance.choice(walks), chance.choice(plans)
                link = chance.choice(schema.links())
                if chance.random() < 0.3:
                    plan[link] = "late"
                try:
                    wanted = numbers_of(fresh(walk), plan.copy())
                except TooMany:
                    continue
                self.assertEqual(numbers_of(walk, plan), wanted)
                if len(used_links(walk)) <= 4:
                    sizes = chance_sizes(chance, walk)
                    self.assertEqual(unbeaten(walk, sizes), unbeaten(fresh(walk), sizes))


class Pairs(AgainTest):
    def given(self, seed, many):
        chance = random.Random(seed)
        for _ in range(many):
            schema, finds = chance_schema(chance), chance_finds(chance)
            one, other = [chance_walk(chance, schema, finds, True)[0] for _ in range(2)]
            yield chance, one, (other if chance.random() < 0.6 else one + other)

    def test_again_and_the_other_way_round(self):
        for _, one, other in self.given(132, 150):
            there, back = pair_of(fresh(one), fresh(other)), pair_of(fresh(other), fresh(one))
            for _ in range(2):
                self.assertEqual(pair_of(one, other), there)
                self.assertEqual(pair_of(other, one), back)
            for first, second in ((one, other), (other, one)):
                for _ in range(2):
                    found = maps(first, second)
                    self.assertEqual(found, maps(first, second))
                    if found is not None:
                        self.assertTrue(are_maps(first, second, found) and are_maps(fresh(first), fresh(second), found))
                    parted = parting(first, second)
                    if parted is not None:
                        self.assertTrue(is_parting(first, second, parted) and is_parting(fresh(second), fresh(first), parted))

    def test_several_walks_by_turns(self):
        chance = random.Random(133)
        for _ in range(20):
            schema, finds = chance_schema(chance), chance_finds(chance)
            walks = [chance_walk(chance, schema, finds, True)[0] for _ in range(4)]
            walks.append(walks[0] + walks[1])
            wanted = {(one, other): pair_of(fresh(walks[one]), fresh(walks[other])) for one in range(5) for other in range(5)}
            for _ in range(60):
                one, other = chance.randrange(5), chance.randrange(5)
                self.assertEqual(pair_of(walks[one], walks[other]), wanted[one, other])

    def test_what_was_told_is_changed_in_between(self):
        for _, one, other in self.given(134, 100):
            wanted = pair_of(fresh(one), fresh(other))
            found, parted, paths = maps(one, other), parting(one, other), needless(one)
            shown = [found and list(found.items()), parted and (parted[0].rows(), dict(parted[1]), parted[2])]
            if found is not None:
                for _, mapped in maps(one, other).values():
                    mapped.clear()
                maps(one, other).clear()
            if parted is not None:
                store, roots, _ = parting(one, other)
                for name in roots:
                    roots[name].append(99)
                roots.clear()
                for kind in store.schema.kinds():
                    store[kind, 50] = {name: None if name in store.schema.links() else True
                                       for name in store.schema.flags_of(kind) + store.schema.links_from(kind)
                                       if name not in store.schema.links() or not store.schema.is_list(name)}
            needless(one).clear()
            self.assertEqual([pair_of(one, other), needless(one)], [wanted, paths])
            found, parted = maps(one, other), parting(one, other)
            self.assertEqual([found and list(found.items()), parted and (parted[0].rows(), dict(parted[1]), parted[2])], shown)

    def test_spoilt_maps_between(self):
        for chance, one, other in self.given(135, 100):
            both = one + other
            found = maps(one, both)
            for key in chance.sample(sorted(found), min(4, len(found))):
                spot, mapped = found[key]
                for wrong in [(spot, {}), (spot, {**mapped, (9,): (0,)}), (spot[:-1], mapped), None,
                              (spot, {path: (False,) + end[1:] if end[0] == 0 else (True,) + end[1:] for path, end in mapped.items()})]:
                    self.assertFalse(are_maps(one, both, {**found, key: wrong}))
                    self.assertTrue(are_maps(one, both, found))
            self.assertFalse(are_maps(one, both, {key: found[key] for key in list(found)[1:]}))

    def test_lean(self):
        for _, one, other in self.given(136, 100):
            both = one + other
            slim = lean(both)
            self.assertEqual([slim, lean(both), lean(slim)], [lean(fresh(both))] * 3)
            self.assertTrue(is_lean(slim) and are_alike(slim, both) and needless(slim) == [])
            self.assertEqual([is_lean(both), is_lean(both)], [needless(both) == [] and len(both.block_rows) == 0] * 2)

    def test_more_walks_than_are_remembered(self):
        bodies = [("go", "x", field, y, ()) for field in ("f", "g", "h", "p", "q") for y in "abcdefghijklmno" if y != "x"]
        walks = [Walk(rich_schema(), [("find", "x", "a", "many", (body,))]) for body in bodies]
        one = Walk(rich_schema(), [("find", "x", "a", "many", (bodies[0], bodies[20]))])
        for other in walks + walks[::-1]:
            field = other.statement((0, 0))[2]
            self.assertEqual([is_within(other, one), is_within(one, other), maps(other, one) is None],
                             [field in ("f", "g"), False, field not in ("f", "g")])

    def test_walks_of_equal_schemas(self):
        twin = Schema(["shop", "customer", "order"], dict(reversed(shop_schema().fields().items())))
        one, other = shop_walk(DEEP, FLAT), Walk(twin, [("find", "o", "order", "many", (FLAT,))])
        for _ in range(2):
            self.assertEqual([is_within(other, one), is_within(one, other), covers(one, other)], [True, False, True])
            self.assertTrue(are_maps(other, one, maps(other, one)))

    def test_errors_again(self):
        one, other = shop_walk(DEEP), shop_walk(FLAT, word="one")
        asks = [is_within, are_alike, covers, parting, maps, lambda first, second: are_maps(first, second, None)]
        for ask in asks + [lambda first, second: is_parting(first, second, None)]:
            ask(one, one)
            for _ in range(2):
                self.raises(NoWalk, {"value": 1}, ask, 1, None)
                self.raises(NoWalk, {"value": None}, ask, one, None)
                self.raises(OtherFinds, {"one": one.finds(), "other": other.finds()}, ask, one, other)
                self.raises(OtherSchema, {}, ask, one, Walk(rich_schema(), [("find", "o", "a", "many", ())]))


if __name__ == "__main__":
    unittest.main()
