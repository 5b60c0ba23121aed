"""Links that must be read early, bounded plans, and plans that no other one beats."""

import itertools
import random
import unittest

from chance import chance_finds, chance_plan, chance_schema, chance_sizes, chance_walk, wide_schema
from fetchwalks.early import bound, bounded_plan, is_bounded, must, unbeaten, used_links
from fetchwalks.errors import InvalidPlan, InvalidSizes, LinkRing, NoWalk, OtherFinds, OtherSchema, TooMany, WordRefused
from fetchwalks.numbers import answer_classes, most, most_kept
from fetchwalks.places import kept_places, looped_places, touched_places
from fetchwalks.plans import Plan, first_ring
from fetchwalks.schemas import Schema
from fetchwalks.sizes import Sizes
from fetchwalks.walks import Walk
from samples import ODD, layered_schema, layered_words, rich_schema, shop_schema, tree_body

DEEP = ("go", "o", "buyer", "c", (("for", "c", "orders", "p", (("go", "p", "place", "s", ()),)),))


def shop_walk(*body, word="many", name="o"):
    return Walk(shop_schema(), [("find", name, "order", word, body)])


def rich_walk(*body, kind="a", word="many"):
    return Walk(rich_schema(), [("find", "x", kind, word, body)])


def shop_plan(**words):
    return Plan.of(shop_schema(), **words)


def all_plans(schema, links):
    """All plans of words for these links, in their sequence."""
    plans = []
    for words in itertools.product(("late", "along", "ahead"), repeat=len(links)):
        try:
            plans.append(Plan.of(schema, **dict(zip(links, words))))
        except WordRefused:
            pass
    return plans


def slow_unbeaten(walk, sizes):
    rows = {}
    for plan in all_plans(walk.schema, used_links(walk)):
        try:
            numbers = (most(walk, plan)(sizes), most_kept(walk, plan)(sizes))
        except TooMany:
            continue
        rows.setdefault(numbers, plan)
    best = [one for one in rows if not any([other != one and other[0] <= one[0] and other[1] <= one[1] for other in rows])]
    return [one + (rows[one],) for one in sorted(best)]


def tree(x, names, depth):
    """Steps by p and r, as deep as this."""
    return tuple([("go", x, field, names[0], tree(names[0], names[1:], depth - 1)) for field in ("pr" if depth else "")])


def trimmed(x, names, many):
    """Steps by p and r to so many places, the nearest ones."""
    ways = [""]
    while len(ways) <= many:
        ways.append(ways[(len(ways) - 1) // 2] + "pr"[len(ways) % 2])

    def body(way, y):
        rows = [("go", y, field, names[len(way)], body(way + field, names[len(way)])) for field in "pr" if way + field in ways]
        return tuple(rows)

    return body("", x)


def turned(x, names, body):
    """Steps by q and its list, behind which the body is done at two places."""
    return (("go", x, "q", names[0], (("for", names[0], "n", names[1], body),)),)


def turned_walk():
    """A walk with 323 touched places and six used links."""
    fields = {"p": ("a", "a", None, False), "r": ("a", "a", None, False), "q": ("a", "e", "n", False)}
    fields.update({name: ("a", "b", None, False) for name in "cd"})
    inner = ("go", "f", "p", "g", turned("g", "hi", tree("i", "jkl", 3)))
    outer = ("go", "w", "p", "v", turned("v", "ef", tree("f", "ghijk", 5) + (inner,)))
    body = turned("x", "yw", (outer,)) + (("go", "x", "c", "z", ()), ("go", "x", "d", "z", ()))
    return Walk(Schema(["a", "b", "e"], fields), [("find", "x", "a", "one", body)])


class EarlyTest(unittest.TestCase):
    def raises(self, error, attributes, ask, *arguments):
        with self.assertRaises(error) as caught:
            ask(*arguments)
        self.assertEqual(vars(caught.exception), attributes)


class Bounds(EarlyTest):
    def test_must(self):
        self.assertEqual(must(shop_walk(DEEP)), ["buyer", "orders", "place"])
        # The first customer, and the list, are asked for once only.
        self.assertEqual(must(shop_walk(DEEP, word="one")), ["place"])
        self.assertEqual(must(walk=shop_walk()), [])
        self.assertEqual(must(shop_walk(("go", "o", "place", "s", ()))), ["place"])
        loop = ("for", "x", "m", "y", (("for", "x", "l", "z", (("go", "z", "g", "w", ()),)),))
        self.assertEqual(must(rich_walk(loop, kind="b", word="one")), ["g"])
        self.assertEqual(must(rich_walk(loop, kind="b")), ["g", "l", "m"])

    def test_a_list_that_is_only_looped(self):
        # No member is new behind the single field, but the list is asked for.
        walk = rich_walk(("go", "x", "g", "y", (("for", "y", "m", "z", ()),)))
        self.assertEqual(must(walk), ["g", "m"])

    def test_is_bounded(self):
        walk = shop_walk(DEEP, word="one")
        self.assertEqual([is_bounded(walk, shop_plan(**words)) for words in (
            {}, {"place": "along"}, {"place": "ahead"}, {"buyer": "along", "orders": "ahead"})], [False, True, True, False])
        self.assertEqual([bound(walk, shop_plan(**words)) for words in (
            {}, {"place": "along"}, {"place": "ahead"}, {"buyer": "along", "orders": "ahead"})], [None, 3, 5, None])
        self.assertIs(is_bounded(walk=shop_walk(), plan=shop_plan()), True)
        self.assertEqual(bound(plan=shop_plan(), walk=shop_walk()), 1)

    def test_bounded_plan(self):
        plan = bounded_plan(walk=shop_walk(DEEP))
        self.assertEqual(plan, shop_plan(buyer="along", orders="along", place="along"))
        self.assertEqual(bound(shop_walk(DEEP), plan), 1)
        self.assertEqual(bounded_plan(shop_walk(DEEP, word="one")), shop_plan(place="along"))
        plan["buyer"] = "ahead"
        self.assertEqual(bounded_plan(shop_walk(DEEP, word="one")), shop_plan(place="along"))

    def test_rings(self):
        self.raises(LinkRing, {"ring": ["p"]}, bounded_plan, rich_walk(("go", "x", "p", "y", ())))
        self.raises(LinkRing, {"ring": ["f", "i"]}, bounded_plan, rich_walk(("go", "x", "f", "y", (("go", "y", "i", "z", ()),))))
        body = (("go", "x", "q", "v", ()), ("go", "x", "f", "y", (("go", "y", "i", "z", ()),)), ("for", "x", "k", "w", ()))
        self.raises(LinkRing, {"ring": ["k"]}, bounded_plan, rich_walk(*body))
        # They are no trouble where they are bounded.
        self.assertEqual(bounded_plan(rich_walk(*body[:2], word="one")), Plan(rich_schema()))

    def test_walks_of_no_links(self):
        walk = Walk(Schema(["a"], {}), [("find", "x", "a", "many", ()), ("find", "y", "a", "one", ())])
        plan = Plan(walk.schema)
        self.assertEqual([must(walk), used_links(walk), is_bounded(walk, plan), bound(walk, plan)], [[], [], True, 2])
        self.assertEqual(bounded_plan(walk), plan)
        self.assertEqual(unbeaten(walk, Sizes.of(walk, ("find", "x", 7))), [(2, 8, plan)])

    def test_great_walks_are_answered(self):
        walk = Walk(layered_schema(), [("find", "x", "a", "many", tree_body(101))])
        self.assertEqual([must(walk), used_links(walk)], [["p", "q"], ["p", "q"]])
        self.raises(LinkRing, {"ring": ["p"]}, bounded_plan, walk)
        self.assertIs(is_bounded(walk, Plan.of(layered_schema(), **layered_words("along"))), False)

    def test_facts_by_chance(self):
        chance = random.Random(51)
        told = {True: 0, False: 0}
        for number in range(500):
            schema = chance_schema(chance) if number % 2 else wide_schema(chance)
            walk, _, _ = chance_walk(chance, schema, chance_finds(chance, schema.kinds()), True)
            late = answer_classes(walk, Plan(schema))
            links = sorted({answers.link_name for answers in late if answers.times.constant is None})
            self.assertEqual(must(walk), links)
            ring = first_ring(schema, links)
            if ring is not None:
                self.raises(LinkRing, {"ring": ring}, bounded_plan, walk)
            else:
                self.assertEqual(bounded_plan(walk), Plan.of(schema, **{link: "along" for link in links}))
                self.assertTrue(is_bounded(walk, bounded_plan(walk)))
            plan = chance_plan(chance, schema)
            try:
                classes = answer_classes(walk, plan)
            except TooMany:
                continue
            wanted = all([answers.times.constant is not None for answers in classes])
            told[wanted] += 1
            self.assertIs(is_bounded(walk, plan), wanted)
            self.assertEqual(bound(walk, plan), len(classes) if wanted else None)
        self.assertGreater(min(told.values()), 100)

    def test_errors(self):
        for value in ODD + [shop_plan()]:
            for ask in (must, bounded_plan, used_links):
                self.raises(NoWalk, {"value": value}, ask, value)
            for ask in (is_bounded, bound, unbeaten):
                self.raises(NoWalk, {"value": value}, ask, value, value)
        for ask in (is_bounded, bound):
            for value in ODD + [shop_walk()]:
                self.raises(InvalidPlan, {"value": value}, ask, shop_walk(), value)
            self.raises(OtherSchema, {}, ask, shop_walk(), Plan(rich_schema()))


class Used(EarlyTest):
    def test_used_links(self):
        self.assertEqual(used_links(shop_walk()), [])
        self.assertEqual(used_links(walk=shop_walk(DEEP)), ["buyer", "orders", "place"])
        self.assertEqual(used_links(rich_walk(("go", "x", "g", "y", (("for", "y", "m", "z", ()),)))), ["g", "m"])
        told = used_links(shop_walk(DEEP))
        told.clear()
        self.assertEqual(len(used_links(shop_walk(DEEP))), 3)

    def test_as_places_tell(self):
        chance = random.Random(52)
        for _ in range(200):
            walk, _, _ = chance_walk(chance, chance_schema(chance), chance_finds(chance), True)
            links = {place[-1] for place in touched_places(walk).rows() if len(place) > 1}
            self.assertEqual(used_links(walk), sorted(links | {link for _, link in looped_places(walk)}))


class Unbeaten(EarlyTest):
    def sizes(self, walk, found, members):
        return Sizes.of(walk, ("find", "o", found), ("list", "orders", members))

    def test_shop(self):
        walk = shop_walk(("go", "o", "buyer", "c", ()))
        # Along and ahead: the first one asks less, both keep the same.
        self.assertEqual(unbeaten(walk, self.sizes(walk, 5, 7)), [(1, 10, shop_plan(buyer="along"))])
        walk = shop_walk(DEEP)
        everything = shop_plan(buyer="along", orders="along", place="along")
        self.assertEqual(unbeaten(walk=walk, sizes=self.sizes(walk, 5, 7)), [(1, 75, everything)])

    def test_more_questions_for_fewer_objects(self):
        # Customers of other orders are kept only if they come along.
        walk = Walk(shop_schema(), [("find", "o", "customer", "many", (("for", "o", "orders", "p", ()),)),
                                    ("find", "q", "order", "many", (("go", "q", "place", "s", ()),))])
        sizes = Sizes.of(walk, ("find", "o", 2), ("list", "orders", 3), ("find", "q", 5))
        self.assertEqual(unbeaten(walk, sizes), [
            (2, 24, shop_plan(orders="along", place="along")), (7, 18, shop_plan(orders="along"))])
        self.assertEqual([plan.words() for _, _, plan in unbeaten(walk, sizes)], [
            {"buyer": "late", "orders": "along", "place": "along"}, {"buyer": "late", "orders": "along", "place": "late"}])

    def test_a_find_with_the_name_of_a_field(self):
        walk = Walk(shop_schema(), [("find", "buyer", "customer", "many", (("for", "buyer", "orders", "p", ()),))])
        sizes = Sizes.of(walk, ("find", "buyer", 2), ("list", "orders", 3))
        self.assertEqual(unbeaten(walk, sizes), [(1, 8, shop_plan(orders="along"))])

    def test_the_first_of_plans_with_the_same_numbers(self):
        # A find "one" makes late and ahead the same.
        walk = rich_walk(("go", "x", "f", "y", ()), ("go", "x", "h", "z", ()), word="one")
        self.assertEqual(unbeaten(walk, Sizes(walk)), [(1, 3, Plan.of(rich_schema(), f="along", h="along"))])
        walk = rich_walk(("for", "x", "n", "y", (("go", "y", "q", "z", ()),)))
        # Of q, behind n, the only member leads back, so late it asks nothing; n and q are rings.
        self.assertEqual(unbeaten(walk, Sizes(walk)), [(2, 2, Plan(rich_schema()))])

    def test_late_before_along_before_ahead(self):
        # What no touched object misses: all words of the list are the same where its field is late.
        walk = Walk(shop_schema(), [("find", "o", "customer", "one", (("for", "o", "orders", "p", (("go", "p", "buyer", "c", ()),)),))])
        self.assertEqual(used_links(walk), ["orders"])
        self.assertEqual(unbeaten(walk, Sizes(walk)), [(1, 3, shop_plan(orders="along"))])
        chance = random.Random(53)
        several = 0
        for _ in range(150):
            schema = chance_schema(chance)
            walk, _, _ = chance_walk(chance, schema, chance_finds(chance), True)
            links = used_links(walk)
            if len(links) > 3:
                continue
            sizes = chance_sizes(chance, walk)
            plans = all_plans(schema, links)
            order = [[("late", "along", "ahead").index(plan[link]) for link in links] for plan in plans]
            self.assertEqual(order, sorted(order))
            for asked, kept, plan in unbeaten(walk, sizes):
                same = [other for other in plans if (most(walk, other)(sizes), most_kept(walk, other)(sizes)) == (asked, kept)]
                self.assertEqual(plan, same[0])
                several += len(same) > 1
        self.assertGreater(several, 2)

    def test_rings_are_left_out(self):
        walk = rich_walk(("go", "x", "f", "y", (("go", "y", "i", "z", ()),)))
        sizes = Sizes.of(walk, ("find", "x", 4))
        told = unbeaten(walk, sizes)
        self.assertEqual(told, slow_unbeaten(walk, sizes))
        # With f along, the target of i would have its own target by f come along, too.
        self.assertEqual(told, [(5, 12, Plan.of(rich_schema(), i="along"))])

    def test_all_plans_by_chance(self):
        chance = random.Random(54)
        lengths, words = {}, set()
        for number in range(400):
            schema = chance_schema(chance) if number % 3 else wide_schema(chance)
            walk, _, _ = chance_walk(chance, schema, chance_finds(chance, schema.kinds()), True)
            if len(used_links(walk)) > 4:
                continue
            sizes = chance_sizes(chance, walk)
            if number % 5 == 0:
                for label, name in sizes.names():
                    sizes[label, name] = chance.randint(2, 10 ** chance.randint(1, 30))
            told = unbeaten(walk, sizes)
            self.assertEqual(told, slow_unbeaten(walk, sizes))
            lengths[len(told)] = lengths.get(len(told), 0) + 1
            words.update([word for _, _, plan in told for word in plan.words().values()])
        # With along in the place of ahead a plan asks no more, and comes first.
        self.assertEqual(words, {"late", "along"})
        self.assertGreaterEqual(len(lengths), 4)

    def test_too_great_plans_are_left_out(self):
        walk = turned_walk()
        links = used_links(walk)
        self.assertEqual(links, ["c", "d", "n", "p", "q", "r"])
        left_out = 0
        for plan in all_plans(walk.schema, links):
            try:
                kept_places(walk, plan)
            except TooMany:
                left_out += 1
        # Those by which b comes behind a by both fields, and another a with both fields by the list.
        self.assertEqual(left_out, 16)
        told = unbeaten(walk, Sizes(walk))
        self.assertEqual(told, slow_unbeaten(walk, Sizes(walk)))
        self.assertNotIn(Plan.of(walk.schema, c="along", d="along", n="along", q="along"), [plan for _, _, plan in told])

    def test_places_just_passed_and_just_not(self):
        schema = turned_walk().schema
        inner = ("go", "f", "p", "g", turned("g", "hi", trimmed("i", "jklmno", 7)))
        outer = ("go", "w", "p", "v", turned("v", "ef", trimmed("f", "ghijkl", 63) + (inner,)))
        body = turned("x", "yw", (outer,)) + (("go", "x", "c", "z", ()), ("go", "x", "d", "z", ())) + trimmed("x", "ab", 2)
        early = Plan.of(schema, c="along", d="along", n="along", q="along")
        for kind, many in (("e", 2000), ("a", 2003)):
            finds = [("find", "x", "a", "one", body), ("find", "s", "e", "one", ()), ("find", "t", "e", "one", ()),
                     ("find", "u", kind, "one", ())]
            walk = Walk(schema, finds)
            if many == 2000:
                self.assertEqual(len(kept_places(walk, early)), many)
            else:
                self.raises(TooMany, {"what": "places", "limit": 2000}, kept_places, walk, early)
            told = unbeaten(walk, Sizes(walk))
            self.assertEqual(told, slow_unbeaten(walk, Sizes(walk)))
            self.assertEqual(early in [plan for _, _, plan in told], many == 2000)

    def test_what_was_told_can_be_changed(self):
        walk = shop_walk(DEEP)
        told = unbeaten(walk, self.sizes(walk, 5, 7))
        told[0][2]["buyer"] = "late"
        told.clear()
        again = unbeaten(walk, self.sizes(walk, 5, 7))
        self.assertEqual([row[2].words()["buyer"] for row in again], ["along"])

    def test_seven_links(self):
        body = (("go", "x", "f", "r", (("for", "r", "l", "d", ()),)), ("go", "x", "g", "s", (("for", "s", "m", "d", ()),)),
                ("go", "x", "h", "t", (("go", "t", "i", "d", ()),)), ("go", "x", "p", "e", ()))
        walk = rich_walk(*body)
        self.assertEqual(used_links(walk), ["f", "g", "h", "i", "l", "m", "p"])
        self.raises(TooMany, {"what": "links", "limit": 6}, unbeaten, walk, Sizes(walk))
        walk = rich_walk(*body[:3])
        sizes = Sizes.of(walk, ("find", "x", 3), ("list", "l", 4))
        told = unbeaten(walk, sizes)
        self.assertEqual(told, slow_unbeaten(walk, sizes))

    def test_errors(self):
        walk = shop_walk()
        for value in ODD + [walk, {("find", "o"): 1}]:
            self.raises(InvalidSizes, {"value": value}, unbeaten, walk, value)
        self.raises(OtherSchema, {}, unbeaten, walk, Sizes(rich_walk()))
        for twin in (shop_walk(name="p"), shop_walk(word="one")):
            self.raises(OtherFinds, {"one": walk.finds(), "other": twin.finds()}, unbeaten, walk, Sizes(twin))
        body = tuple([("go", "x", name, "y", ()) for name in "fghpq"])
        great = rich_walk(*body, ("for", "x", "k", "y", ()), ("for", "x", "n", "y", ()))
        self.raises(OtherFinds, {"one": great.finds(), "other": rich_walk(word="one").finds()}, unbeaten, great,
                    Sizes(rich_walk(word="one")))


if __name__ == "__main__":
    unittest.main()
