"""Plans: words, rings of links, trials."""

import itertools
import random
import unittest

from chance import chance_schema
from fetchwalks.errors import InvalidLinks, InvalidPlan, InvalidSchema, InvalidWord, LinkRing, OtherSchema
from fetchwalks.errors import UnknownLink, WordRefused
from fetchwalks.plans import Plan, can_follow, first_ring, tried_words
from fetchwalks.schemas import Schema
from samples import ODD, rich_schema, shop_schema

NO_LINKS = ODD + ["order", "shop", "buyers", ["buyer"], ("buyer",), b"buyer", Plan]
NO_WORDS = ODD + ["Late", "early", "late ", ["late"], ("along",), b"ahead", shop_schema()]


def ring_schema():
    """Fields round three kinds, whose lists make rings of their own."""
    return Schema(["a", "b", "c"], {
        "ab": ("a", "b", "ba", False), "bc": ("b", "c", "cb", True), "ca": ("c", "a", "ac", False),
        "xa": ("b", "a", None, False), "self": ("c", "c", "flex", False),
    })


def put(plan, link, word):
    plan[link] = word


def take(plan, other):
    plan |= other
    return plan


class PlanTest(unittest.TestCase):
    def raises(self, error, attributes, ask, *arguments, **named):
        with self.assertRaises(error) as caught:
            ask(*arguments, **named)
        self.assertEqual(vars(caught.exception), attributes)
        return caught.exception

    def refused(self, link, word, ring, ask, *arguments, **named):
        error = self.raises(WordRefused, {"link": link, "word": word}, ask, *arguments, **named)
        self.assertIs(type(error.__cause__), LinkRing)
        self.assertEqual(error.__cause__.ring, ring)


class Words(PlanTest):
    def setUp(self):
        self.plan = Plan(shop_schema())

    def test_no_schema(self):
        for value in ODD + [Schema, Plan(shop_schema())]:
            self.raises(InvalidSchema, {"value": value}, Plan, value)
            self.raises(InvalidSchema, {"value": value}, Plan.of, value, buyer="none")

    def test_late_at_first(self):
        self.assertEqual(self.plan.words(), {"buyer": "late", "orders": "late", "place": "late"})
        self.assertEqual(list(Plan(rich_schema()).words()), rich_schema().links())
        self.assertEqual([self.plan["buyer"], len(self.plan), "buyer" in self.plan], ["late", 0, False])
        self.assertEqual(self.plan.schema, shop_schema())

    def test_words_of_the_class(self):
        self.assertEqual([Plan.WORDS, self.plan.WORDS], [("late", "along", "ahead")] * 2)

    def test_set_and_asked(self):
        for word in Plan.WORDS:
            self.plan["buyer"] = word
            self.assertEqual([self.plan["buyer"], self.plan["place"]], [word, "late"])
            self.assertEqual([len(self.plan), "buyer" in self.plan], [int(word != "late"), word != "late"])
        self.plan["place"] = "along"
        self.assertEqual(self.plan.words(), {"buyer": "ahead", "orders": "late", "place": "along"})
        self.plan["buyer"] = "late"
        self.assertEqual(self.plan.words(), {"buyer": "late", "orders": "late", "place": "along"})

    def test_words_are_new(self):
        self.plan.words()["buyer"] = "along"
        self.assertEqual(self.plan["buyer"], "late")

    def test_values_that_are_no_links(self):
        for value in NO_LINKS:
            self.raises(UnknownLink, {"value": value}, put, self.plan, value, "none")
            self.raises(UnknownLink, {"value": value}, lambda: self.plan[value])
            self.assertFalse(value in self.plan)
        self.assertEqual(self.plan, Plan(shop_schema()))

    def test_values_that_are_no_words(self):
        plan = Plan.of(rich_schema(), f="along")
        for value in NO_WORDS:
            for link in ("f", "g", "p"):
                self.raises(InvalidWord, {"value": value}, put, plan, link, value)
        self.assertEqual(plan, Plan.of(rich_schema(), f="along"))

    def test_a_field_from_a_kind_to_itself_is_always_late(self):
        plan = Plan(rich_schema())
        for link in ("p", "k", "q", "n"):
            for word in ("along", "ahead"):
                self.refused(link, word, [link], put, plan, link, word)
            plan[link] = "late"
        self.assertEqual(len(plan), 0)

    def test_a_ring_of_two(self):
        plan = Plan.of(rich_schema(), i="ahead")
        self.refused("f", "along", ["f", "i"], put, plan, "f", "along")
        plan["i"] = "late"
        plan["f"] = "along"
        self.refused("i", "ahead", ["f", "i"], put, plan, "i", "ahead")
        self.assertEqual(plan.words(), {**Plan(rich_schema()).words(), "f": "along"})

    def test_the_first_ring_is_that_of_all_links_that_are_not_late(self):
        schema = ring_schema()
        plan = Plan.of(schema, bc="along", ca="ahead")
        self.refused("ab", "along", ["ab", "bc", "ca"], put, plan, "ab", "along")
        plan["bc"] = "late"
        plan["ab"] = "ahead"
        self.refused("xa", "ahead", ["ab", "xa"], put, plan, "xa", "ahead")

    def test_a_word_is_changed_where_no_new_ring_comes(self):
        plan = Plan.of(shop_schema(), buyer="along", orders="along")
        plan["buyer"] = "ahead"
        self.assertEqual(plan.words(), {"buyer": "ahead", "orders": "along", "place": "late"})
        plan["buyer"] = "along"
        self.assertEqual(plan, Plan.of(shop_schema(), buyer="along", orders="along"))

    def test_not_iterated_over(self):
        for ask in (list, iter, sorted):
            self.assertRaises(TypeError, ask, Plan.of(shop_schema(), buyer="along"))

    def test_equality(self):
        one = Plan.of(shop_schema(), buyer="along", place="ahead")
        other = Plan(shop_schema())
        self.assertNotEqual(one, other)
        other["place"] = "ahead"
        other["buyer"] = "ahead"
        self.assertNotEqual(one, other)
        other["buyer"] = "along"
        self.assertEqual(one, other)
        self.assertNotEqual(Plan(Schema(["a"], {})), Plan(Schema(["a"], {}, {"u": "a"})))
        for value in NO_LINKS + [one.words()]:
            self.assertFalse(one == value)
            self.assertTrue(one != value)

    def test_copies(self):
        one = Plan.of(shop_schema(), buyer="along")
        other = one.copy()
        self.assertEqual(one, other)
        other["buyer"] = "late"
        one["place"] = "ahead"
        self.assertEqual([one.words()["buyer"], other.words()["place"]], ["along", "late"])

    def test_shown(self):
        self.assertEqual(repr(self.plan), "Plan({})")
        self.plan["place"] = "ahead"
        self.plan["buyer"] = "along"
        self.assertEqual(repr(self.plan), "Plan({'buyer': 'along', 'place': 'ahead'})")

    def test_by_name(self):
        self.assertEqual(Plan(schema=shop_schema()), self.plan)
        self.assertEqual(Plan.of(schema=shop_schema(), buyer="late"), self.plan)


class Of(PlanTest):
    def test_several_words_in_any_sequence(self):
        words = {"f": "along", "g": "ahead", "h": "late"}
        for order in itertools.permutations(words):
            self.assertEqual(Plan.of(rich_schema(), **{link: words[link] for link in order}).words(),
                             {**Plan(rich_schema()).words(), "f": "along", "g": "ahead"})
        self.assertEqual(Plan.of(rich_schema()), Plan(rich_schema()))

    def test_wrong_words_in_the_sequence_of_the_links(self):
        self.raises(UnknownLink, {"value": "zz"}, Plan.of, shop_schema(), zz="along")
        self.raises(UnknownLink, {"value": "Buyer"}, Plan.of, shop_schema(), buyer="none", Buyer=1)
        self.raises(InvalidWord, {"value": "none"}, Plan.of, shop_schema(), zz="along", buyer="none")
        self.raises(UnknownLink, {"value": "zz"}, Plan.of, shop_schema(), zz=None, buyer="along")
        for value in NO_WORDS:
            self.raises(InvalidWord, {"value": value}, Plan.of, shop_schema(), buyer=value)

    def test_rings(self):
        self.refused("i", "along", ["f", "i"], Plan.of, rich_schema(), i="along", f="ahead")
        self.refused("k", "along", ["k"], Plan.of, rich_schema(), k="along", p="ahead")


class TakenOver(PlanTest):
    def test_words_that_are_not_late(self):
        plan = Plan.of(rich_schema(), f="along", h="ahead")
        given = Plan.of(rich_schema(), f="ahead", g="along")
        self.assertIs(take(plan, given), plan)
        self.assertEqual(plan, Plan.of(rich_schema(), f="ahead", g="along", h="ahead"))
        self.assertEqual(given, Plan.of(rich_schema(), f="ahead", g="along"))

    def test_the_same_plan_and_an_empty_one(self):
        plan = Plan.of(rich_schema(), f="along", h="ahead")
        take(plan, plan)
        take(plan, Plan(rich_schema()))
        self.assertEqual(plan, Plan.of(rich_schema(), f="along", h="ahead"))

    def test_no_plan(self):
        plan = Plan.of(shop_schema(), buyer="along")
        for value in ODD + [shop_schema(), plan.words(), Plan]:
            self.raises(InvalidPlan, {"value": value}, take, plan, value)
        self.raises(OtherSchema, {}, take, plan, Plan(rich_schema()))
        self.assertEqual(plan, Plan.of(shop_schema(), buyer="along"))

    def test_all_or_none(self):
        schema = ring_schema()
        plan = Plan.of(schema, ca="along")
        given = Plan.of(schema, ab="ahead", bc="along", cb="ahead")
        self.refused("bc", "along", ["ab", "bc", "ca"], take, plan, given)
        self.assertEqual(plan, Plan.of(schema, ca="along"))
        self.refused("ca", "along", ["ab", "bc", "ca"], take, given, plan)
        self.assertEqual(given, Plan.of(schema, ab="ahead", bc="along", cb="ahead"))


class Trials(PlanTest):
    def setUp(self):
        self.plan = Plan.of(shop_schema(), buyer="along")
        self.before = self.plan.copy()

    def test_words_are_back_behind_the_block(self):
        with self.plan.trial() as plan:
            self.assertIs(plan, self.plan)
            plan["buyer"] = "late"
            plan["place"] = "ahead"
            self.assertEqual(plan, Plan.of(shop_schema(), place="ahead"))
        self.assertEqual(self.plan, self.before)

    def test_behind_an_error(self):
        for error in (KeyError, WordRefused("a", "b"), InvalidWord(1)):
            with self.assertRaises(type(error) if isinstance(error, Exception) else error):
                with self.plan.trial() as plan:
                    plan["buyer"] = "ahead"
                    raise error
            self.assertEqual(self.plan, self.before)

    def test_another_plan_is_taken_over(self):
        with self.plan.trial() as plan:
            plan |= Plan.of(shop_schema(), buyer="ahead", place="along")
            self.assertEqual(len(self.plan), 2)
        self.assertEqual(self.plan, self.before)

    def test_within_one_another(self):
        with self.plan.trial() as outer:
            outer["buyer"] = "ahead"
            with self.plan.trial() as inner:
                inner["buyer"] = "late"
                with inner.trial():
                    self.plan["place"] = "along"
                self.assertEqual(len(self.plan), 0)
            self.assertEqual(self.plan, Plan.of(shop_schema(), buyer="ahead"))
        self.assertEqual(self.plan, self.before)

    def test_one_trial_twice_and_within_itself(self):
        trial = self.plan.trial()
        self.plan["place"] = "along"
        for _ in range(2):
            with trial:
                self.plan["buyer"] = "ahead"
                with trial:
                    self.plan["buyer"] = "late"
                self.assertEqual(self.plan["buyer"], "ahead")
            self.assertEqual(self.plan, Plan.of(shop_schema(), buyer="along", place="along"))

    def test_words_set_before_stay(self):
        with self.plan.trial():
            pass
        self.plan["place"] = "ahead"
        with self.plan.trial() as plan:
            plan["place"] = "late"
        self.assertEqual(self.plan["place"], "ahead")


class Tried(PlanTest):
    def setUp(self):
        self.plan = Plan.of(shop_schema(), buyer="along")

    def test_what_ask_returns(self):
        words = [("buyer", "late"), ("place", "along"), ("place", "ahead")]
        for value in (words, tuple(words)):
            self.assertEqual(tried_words(self.plan, value, lambda plan: plan.words()),
                             {"buyer": "late", "orders": "late", "place": "ahead"})
        self.assertIs(tried_words(plan=self.plan, words=[], ask=lambda plan: plan), self.plan)
        self.assertEqual(self.plan, Plan.of(shop_schema(), buyer="along"))

    def test_no_plan(self):
        for value in ODD + [shop_schema()]:
            self.raises(InvalidPlan, {"value": value}, tried_words, value, [("no", "no")], len)

    def test_errors_of_words(self):
        self.raises(UnknownLink, {"value": "x"}, tried_words, self.plan, [("buyer", "late"), ("x", "no")], len)
        self.raises(InvalidWord, {"value": "no"}, tried_words, self.plan, [("buyer", "no"), ("x", "no")], len)
        self.refused("p", "along", ["p"], tried_words, Plan(rich_schema()), [("f", "along"), ("p", "along")], len)
        self.assertEqual(self.plan, Plan.of(shop_schema(), buyer="along"))

    def test_one_after_another(self):
        plan = Plan.of(rich_schema(), f="along")
        self.refused("i", "along", ["f", "i"], tried_words, plan, [("i", "along"), ("f", "late")], len)
        self.assertEqual(tried_words(plan, [("f", "late"), ("i", "along")], len), 1)
        self.assertEqual(plan, Plan.of(rich_schema(), f="along"))

    def test_errors_of_ask(self):
        def ask(plan):
            plan["place"] = "along"
            raise ZeroDivisionError

        self.assertRaises(ZeroDivisionError, tried_words, self.plan, [("buyer", "ahead")], ask)
        self.assertEqual(self.plan, Plan.of(shop_schema(), buyer="along"))


class Follow(PlanTest):
    def test_kinds(self):
        schema = ring_schema()
        self.assertTrue(can_follow(schema, "ab", "bc"))
        self.assertFalse(can_follow(schema, "bc", "ab"))
        self.assertTrue(can_follow(schema=schema, one="ab", other="xa"))

    def test_back(self):
        schema = rich_schema()
        # A list of a field that is not single leads to other members, a single one only back.
        self.assertTrue(can_follow(schema, "f", "l"))
        self.assertFalse(can_follow(schema, "l", "f"))
        self.assertFalse(can_follow(schema, "g", "m"))
        self.assertFalse(can_follow(schema, "m", "g"))
        self.assertTrue(can_follow(schema, "g", "l"))
        self.assertTrue(can_follow(schema, "l", "g"))

    def test_fields_from_a_kind_to_itself(self):
        schema = rich_schema()
        table = {pair: can_follow(schema, *pair) for pair in itertools.product("pkqn", repeat=2)}
        self.assertEqual([pair for pair in sorted(table) if not table[pair]], [("k", "p"), ("n", "q"), ("q", "n")])

    def test_no_links(self):
        for value in NO_LINKS:
            self.raises(UnknownLink, {"value": value}, can_follow, shop_schema(), value, None)
            self.raises(UnknownLink, {"value": value}, can_follow, shop_schema(), "buyer", value)
        for value in ODD:
            self.raises(InvalidSchema, {"value": value}, can_follow, value, "x", "y")


class Rings(PlanTest):
    def test_none(self):
        for links in ([], (), ["buyer"], ["buyer", "orders", "place"], ("orders", "orders")):
            self.assertIsNone(first_ring(shop_schema(), links))
        self.assertIsNone(first_ring(rich_schema(), ["g", "m"]))

    def test_one_link(self):
        self.assertEqual(first_ring(rich_schema(), ["k"]), ["k"])
        self.assertEqual(first_ring(rich_schema(), ("p", "n", "k", "i", "f")), ["k"])

    def test_fewest_links_first(self):
        schema = ring_schema()
        self.assertEqual(first_ring(schema, ["ab", "bc", "ca"]), ["ab", "bc", "ca"])
        self.assertEqual(first_ring(schema, ["xa", "ca", "bc", "ab"]), ["ab", "xa"])
        self.assertEqual(first_ring(schema, schema.links()), ["flex"])

    def test_the_least_as_a_list(self):
        schema = Schema(["a", "b"], {"c": ("b", "a", None, False), "d": ("a", "b", None, False),
                                     "e": ("a", "b", None, False), "f": ("b", "a", None, False)})
        self.assertEqual(first_ring(schema, ["f", "e", "d", "c"]), ["c", "d"])
        self.assertEqual(first_ring(schema, ["f", "e", "d"]), ["d", "f"])
        self.assertEqual(first_ring(schema, links=["f", "e"]), ["e", "f"])

    def test_a_list_does_not_close_a_ring_with_its_own_field(self):
        self.assertIsNone(first_ring(rich_schema(), ["f", "l"]))
        self.assertEqual(first_ring(rich_schema(), ["f", "m"]), ["f", "m"])
        self.assertEqual(first_ring(rich_schema(), ["l", "g"]), ["g", "l"])

    def test_a_link_that_stands_twice(self):
        self.assertIsNone(first_ring(shop_schema(), ["buyer", "place", "buyer"]))
        self.assertEqual(first_ring(rich_schema(), ["i", "f", "i", "f"]), ["f", "i"])

    def test_no_links(self):
        for value in [None, True, 0, "", "buyer", {}, {"buyer": 1}, b"", object(), shop_schema()]:
            self.raises(InvalidLinks, {"position": None}, first_ring, shop_schema(), value)
        for value in NO_LINKS:
            self.raises(InvalidLinks, {"position": 0}, first_ring, shop_schema(), [value, None])
            self.raises(InvalidLinks, {"position": 2}, first_ring, shop_schema(), ("buyer", "buyer", value))
        for value in ODD:
            self.raises(InvalidSchema, {"value": value}, first_ring, value, None)


class Chance(PlanTest):
    def slow_follow(self, schema, one, other):
        if schema.kind_of(other) != schema.target_of(one) or (schema.is_list(one) and other == schema.back_of(one)):
            return False
        return schema.is_list(one) or not schema.is_single(one) or other != schema.back_of(one)

    def slow_ring(self, schema, links):
        for length in range(1, len(links) + 1):
            for ring in itertools.permutations(sorted(links), length):
                if all([self.slow_follow(schema, ring[at - 1], ring[at]) for at in range(length)]):
                    return list(ring)
        return None

    def test_rings_and_words(self):
        chance = random.Random(11)
        for _ in range(300):
            schema = chance_schema(chance)
            plan, words = Plan(schema), {}
            for _ in range(8):
                link, word = chance.choice(schema.links()), chance.choice(Plan.WORDS)
                wanted = {name: words[name] for name in words if name != link}
                wanted.update({} if word == "late" else {link: word})
                ring = self.slow_ring(schema, wanted)
                self.assertEqual(first_ring(schema, list(wanted)), ring)
                if ring is None:
                    plan[link] = word
                    words = wanted
                else:
                    self.refused(link, word, ring, put, plan, link, word)
                self.assertEqual(plan.words(), {name: words.get(name, "late") for name in schema.links()})


if __name__ == "__main__":
    unittest.main()
