"""Numbers: weights, classes of answers, and the greatest numbers of questions and kept objects."""

import random
import unittest

from chance import chance_finds, chance_plan, chance_roots, chance_schema, chance_sizes, chance_store, chance_walk
from chance import full_store, least_sizes, wide_schema
from fetchwalks.errors import InvalidPlace, InvalidPlan, NoWalk, OtherSchema, TooMany
from fetchwalks.numbers import Answers, answer_classes, first_growing, most, most_by_link, most_kept, weight
from fetchwalks.places import Places, kept_places
from fetchwalks.plans import Plan
from fetchwalks.schemas import Schema
from fetchwalks.sessions import Session
from fetchwalks.sums import Sum
from fetchwalks.walks import Walk
from samples import ODD, layered_schema, layered_words, rich_schema, shop_schema, tree_body

n, m = Sum.size("find", "o"), Sum.size("list", "orders")


def shop_walk(*body, word="many"):
    return Walk(shop_schema(), [("find", "o", "order", word, body)])


def deep_walk(word="many"):
    deep = ("go", "o", "buyer", "c", (("for", "c", "orders", "p", (("go", "p", "place", "s", ()),)),))
    return shop_walk(deep, word=word)


def rich_walk(*body):
    return Walk(rich_schema(), [("find", "x", "a", "many", body), ("find", "y", "b", "one", ())])


def shop_plan(**words):
    return Plan.of(shop_schema(), **words)


class NumberTest(unittest.TestCase):
    def raises(self, error, attributes, ask, *arguments):
        with self.assertRaises(error) as caught:
            ask(*arguments)
        self.assertEqual(vars(caught.exception), attributes)

    def told(self, walk, plan):
        """The classes, each with the position of that behind which it stands instead of it."""
        classes = answer_classes(walk, plan)
        rows = []
        for answers in classes:
            behind = None if answers.behind is None else classes.index(answers.behind)
            rows.append((answers.label, answers.at_place, answers.link_name, answers.times, answers.new.rows(), behind))
        return rows


class Weights(NumberTest):
    def test_finds(self):
        self.assertEqual(weight(deep_walk(), ("o",)), n)
        self.assertEqual(weight(deep_walk("one"), ("o",)), Sum(1))
        self.assertEqual(weight(walk=deep_walk(), place=("o", "place")), n)

    def test_lists(self):
        self.assertEqual(weight(deep_walk(), ("o", "buyer", "orders")), n * (m - 1))
        self.assertEqual(weight(deep_walk("one"), ("o", "buyer", "orders", "place")), m - 1)
        walk = Walk(shop_schema(), [("find", "o", "customer", "many", ())])
        self.assertEqual(weight(walk, ("o", "orders")), n * m)

    def test_lists_of_single_fields_and_turns(self):
        x, k, l = Sum.size("find", "x"), Sum.size("list", "k"), Sum.size("list", "l")
        weights = {("x", "g", "l"): x * l, ("x", "f", "l"): x * (l - 1), ("x", "f", "m"): x, ("y", "m"): Sum(1), ("y", "l"): l,
                   ("x", "k", "k", "f", "l", "k"): x * k ** 3 * (l - 1), ("x", "p", "k", "n", "k"): x * k * (k - 1)}
        for place in weights:
            self.assertEqual(weight(rich_walk(), place), weights[place])

    def test_a_find_with_the_name_of_a_field(self):
        for body in ((), (("for", "f", "l", "x", ()),)):
            walk = Walk(rich_schema(), [("find", "f", "b", "many", body)])
            found, members = Sum.size("find", "f"), Sum.size("list", "l")
            self.assertEqual(weight(walk, ("f", "l")), found * members)
            plan = Plan.of(rich_schema(), l="along")
            self.assertEqual([most_kept(walk, plan), most(walk, plan)], [found * (members + 1), Sum(1)])

    def test_long_places(self):
        k = Sum.size("list", "k")
        self.assertEqual(weight(rich_walk(), ("x",) + ("k",) * 100).products(), {(("find", "x", 1), ("list", "k", 100)): 1})
        self.assertEqual(weight(rich_walk(), ("y", "i", "p", "k", "f", "i", "p", "k")), (k - 1) ** 2)

    def test_errors(self):
        for value in ODD + [("o", "orders"), ("o", "buyer", "orders", "buyer"), ["o"]]:
            self.raises(InvalidPlace, {"value": value}, weight, deep_walk(), value)
        for value in ODD:
            self.raises(NoWalk, {"value": value}, weight, value, None)


class Classes(NumberTest):
    def test_late(self):
        self.assertEqual(self.told(deep_walk(), shop_plan()), [
            ("find", ("o",), None, Sum(1), [("o",)], None),
            ("object", ("o", "buyer"), "buyer", n, [("o", "buyer")], None),
            ("object", ("o", "buyer", "orders", "place"), "place", n * m - n, [("o", "buyer", "orders", "place")], None),
            ("object", ("o", "place"), "place", n, [("o", "place")], None),
            ("list", ("o", "buyer"), "orders", n, [("o", "buyer", "orders")], None),
        ])

    def test_along(self):
        self.assertEqual(self.told(deep_walk(), shop_plan(buyer="along", place="along")), [
            ("find", ("o",), None, Sum(1), [("o",), ("o", "buyer"), ("o", "place")], None),
            ("list", ("o", "buyer"), "orders", n, [("o", "buyer", "orders"), ("o", "buyer", "orders", "place")], None),
        ])
        everything = [("o",), ("o", "buyer"), ("o", "buyer", "orders"), ("o", "buyer", "orders", "place"), ("o", "place")]
        self.assertEqual(self.told(deep_walk(), shop_plan(buyer="along", orders="along", place="along")),
                         [("find", ("o",), None, Sum(1), everything, None)])

    def test_ahead(self):
        self.assertEqual(self.told(deep_walk(), shop_plan(buyer="ahead", orders="ahead", place="ahead")), [
            ("find", ("o",), None, Sum(1), [("o",)], None),
            ("ahead", None, "buyer", Sum(1), [("o", "buyer")], 0),
            ("ahead", None, "place", Sum(1), [("o", "place")], 0),
            ("ahead", None, "orders", Sum(1), [("o", "buyer", "orders")], 1),
            ("ahead", None, "place", Sum(1), [("o", "buyer", "orders", "place")], 3),
        ])

    def test_ahead_behind_late(self):
        self.assertEqual(self.told(deep_walk(), shop_plan(place="ahead"))[3:], [
            ("ahead", None, "place", Sum(1), [("o", "place")], 0),
            ("ahead", None, "place", n, [("o", "buyer", "orders", "place")], 2),
        ])

    def test_along_behind_ahead(self):
        plan = shop_plan(buyer="ahead", orders="along", place="ahead")
        self.assertEqual(self.told(deep_walk(), plan)[1:], [
            ("ahead", None, "buyer", Sum(1), [("o", "buyer"), ("o", "buyer", "orders")], 0),
            ("ahead", None, "place", Sum(1), [("o", "place")], 0),
            ("ahead", None, "place", Sum(1), [("o", "buyer", "orders", "place")], 1),
        ])

    def test_a_list_that_only_leads_back_is_missed(self):
        x = Sum.size("find", "x")
        walk = rich_walk(("go", "x", "g", "z", (("for", "z", "m", "w", ()),)))
        self.assertEqual(self.told(walk, Plan(rich_schema()))[2:], [
            ("object", ("x", "g"), "g", x, [("x", "g")], None), ("list", ("x", "g"), "m", x, [], None)])
        self.assertEqual(self.told(walk, Plan.of(rich_schema(), m="ahead"))[3:], [
            ("ahead", None, "m", Sum(1), [("y", "m")], 1), ("ahead", None, "m", x, [], 2)])

    def test_a_field_that_only_leads_back_is_not_missed(self):
        walk = rich_walk(("for", "x", "n", "z", ()))
        plan = Plan.of(rich_schema(), f="ahead")
        self.assertEqual([row[0] for row in self.told(walk, plan)], ["find", "find", "list", "ahead", "ahead"])
        body = ("for", "y", "l", "z", ())
        walk = Walk(rich_schema(), [("find", "y", "b", "one", (body,))])
        self.assertEqual(self.told(walk, plan)[1:], [("list", ("y",), "l", Sum(1), [("y", "l")], None)])

    def test_the_sequence(self):
        walk = Walk(shop_schema(), [("find", "z", "order", "many", (("go", "z", "place", "s", ()), ("go", "z", "buyer", "c", ()))),
                                    ("find", "a", "customer", "one", (("for", "a", "orders", "p", ()),)),
                                    ("find", "b", "customer", "one", (("for", "b", "orders", "p", (("go", "p", "place", "s", ()),)),))])
        self.assertEqual([row[:3] for row in self.told(walk, shop_plan())], [
            ("find", ("z",), None), ("find", ("a",), None), ("find", ("b",), None), ("object", ("b", "orders", "place"), "place"),
            ("object", ("z", "buyer"), "buyer"), ("object", ("z", "place"), "place"), ("list", ("a",), "orders"),
            ("list", ("b",), "orders")])

    def test_walks_of_no_links(self):
        walk = Walk(Schema(["a"], {}), [("find", "x", "a", "many", ()), ("find", "y", "a", "one", ())])
        plan = Plan(walk.schema)
        self.assertEqual(self.told(walk, plan), [("find", ("x",), None, Sum(1), [("x",)], None), ("find", ("y",), None, Sum(1), [("y",)], None)])
        self.assertEqual([most(walk, plan), most_kept(walk, plan), most_by_link(walk, plan), first_growing(walk, plan)],
                         [Sum(2), Sum.size("find", "x") + 1, {}, None])

    def test_properties(self):
        classes = answer_classes(walk=deep_walk(), plan=shop_plan(buyer="ahead"))
        self.assertTrue(all([isinstance(answers, Answers) for answers in classes]))
        behind = [answers.behind for answers in classes if answers.label == "ahead"]
        self.assertEqual(behind, [classes[0]])
        self.assertEqual(classes[0].new, Places(deep_walk(), [("o",)]))
        self.assertIs(type(classes[0].times), Sum)

    def test_equality(self):
        plan = shop_plan(buyer="ahead", orders="ahead", place="ahead")
        one, other = answer_classes(deep_walk(), plan), answer_classes(deep_walk(), plan)
        for left in range(len(one)):
            for right in range(len(one)):
                self.assertEqual(one[left] == other[right], left == right)
            for value in ODD + [one, one[left].times]:
                self.assertFalse(one[left] == value)
        late, early = answer_classes(deep_walk(), shop_plan()), answer_classes(deep_walk(), shop_plan(place="along"))
        self.assertEqual([late[1] == early[1], late[0] == early[0]], [True, False])
        self.assertNotEqual(late[1], answer_classes(deep_walk("one"), shop_plan())[1])
        # The same but for what stands behind.
        tree = Walk(layered_schema(), [("find", "x", "a", "one", ()), ("find", "y", "a", "one", ())])
        classes = answer_classes(tree, Plan.of(layered_schema(), f="along", m="ahead"))
        self.assertEqual([answers.label for answers in classes], ["find", "find", "ahead", "ahead"])
        self.assertNotEqual(classes[2], classes[3])


class Numbers(NumberTest):
    def test_most(self):
        self.assertEqual(most(deep_walk(), shop_plan()), 1 + 2 * n + n * m)
        self.assertEqual(most(walk=deep_walk(), plan=shop_plan(buyer="along")), 1 + n + n * m)
        self.assertEqual(most(deep_walk(), shop_plan(buyer="along", place="along")), 1 + n)
        self.assertEqual(most(deep_walk(), shop_plan(buyer="along", place="ahead")), 2 + 2 * n)
        self.assertEqual(most(deep_walk("one"), shop_plan()), 3 + m)
        self.assertEqual(most(deep_walk(), shop_plan(buyer="ahead", orders="ahead", place="ahead")), Sum(5))

    def test_most_kept(self):
        for words in ({}, {"buyer": "along"}, {"buyer": "ahead", "orders": "along", "place": "ahead"}):
            self.assertEqual(most_kept(deep_walk(), shop_plan(**words)), n + 2 * n * m)
        self.assertEqual(most_kept(walk=shop_walk(), plan=shop_plan()), n)
        self.assertEqual(most_kept(shop_walk(), shop_plan(buyer="along", orders="ahead")), n + n * m)

    def test_most_by_link(self):
        self.assertEqual(most_by_link(deep_walk(), shop_plan()), {"buyer": n, "orders": n, "place": n * m})
        told = most_by_link(walk=shop_walk(), plan=shop_plan(place="ahead"))
        self.assertEqual(list(told.items()), [("buyer", Sum()), ("orders", Sum()), ("place", Sum(1))])
        self.assertEqual(list(most_by_link(rich_walk(), Plan(rich_schema()))), rich_schema().links())

    def test_first_growing(self):
        self.assertEqual(first_growing(deep_walk(), shop_plan()), answer_classes(deep_walk(), shop_plan())[1])
        self.assertEqual(first_growing(walk=deep_walk(), plan=shop_plan(buyer="along")).at_place, ("o", "buyer", "orders", "place"))
        self.assertEqual(first_growing(deep_walk("one"), shop_plan()).at_place, ("o", "buyer", "orders", "place"))
        plan = shop_plan(buyer="along", place="along")
        self.assertEqual(first_growing(deep_walk(), plan), answer_classes(deep_walk(), plan)[1])
        self.assertIsNone(first_growing(deep_walk("one"), shop_plan(place="along")))
        self.assertIsNone(first_growing(deep_walk(), shop_plan(buyer="along", orders="ahead", place="along")))

    def test_errors_in_their_sequence(self):
        for ask in (answer_classes, most, most_kept, most_by_link, first_growing):
            for value in ODD + [shop_schema()]:
                self.raises(NoWalk, {"value": value}, ask, value, value)
                self.raises(InvalidPlan, {"value": value}, ask, deep_walk(), value)
            self.raises(OtherSchema, {}, ask, deep_walk(), Plan(rich_schema()))

    def test_just_passed_and_just_not(self):
        plan = Plan.of(layered_schema(), **layered_words("ahead"))
        body = tree_body(100)
        walk = Walk(layered_schema(), [("find", "x", "a", "many", body)])
        x = Sum.size("find", "x")
        self.assertEqual([len(answer_classes(walk, plan)), len(kept_places(walk, plan))], [2000, 2000])
        self.assertEqual([most(walk, plan), most_kept(walk, plan)], [20 + 1980 * x, 2000 * x])
        # One class more, but no place: the list leads back only.
        more = body + (("go", "x", "f", "r", (("for", "r", "m", "s", ()),)),)
        walk = Walk(layered_schema(), [("find", "x", "a", "many", more)])
        self.assertEqual([len(kept_places(walk, plan)), most_kept(walk, plan)], [2000, 2000 * x])
        for ask in (answer_classes, most, most_by_link, first_growing):
            self.raises(TooMany, {"what": "classes", "limit": 2000}, ask, walk, plan)
        # One place more: this comes first.
        walk = Walk(layered_schema(), [("find", "x", "a", "many", more), ("find", "y", "e", "one", ())])
        for ask in (answer_classes, most, most_kept, most_by_link, first_growing):
            self.raises(TooMany, {"what": "places", "limit": 2000}, ask, walk, plan)

    def test_great_walks(self):
        # 111 steps behind four lists that turn back, which are 16 places each.
        fields = {f"f{letter}": ("a", "b", f"l{letter}", False) for letter in "abcdefghijkl"}
        body = tuple([("go", "i", f"f{letter}", "z", ()) for letter in "efghijkl"] * 13)
        for at, letter in enumerate("dcba"):
            x, y, z = "gecx"[at], "hfdb"[at], "igec"[at]
            body = (("go", x, f"f{letter}", y, (("for", y, f"l{letter}", z, body),)),)
        walk = Walk(Schema(["a", "b"], fields), [("find", "x", "a", "many", body)])
        plan = Plan(walk.schema)
        classes = answer_classes(walk, plan)
        x = Sum.size("find", "x")
        sizes = [Sum.size("list", f"l{letter}") for letter in "abcd"]
        ends = x * sizes[0] * sizes[1] * sizes[2] * sizes[3]
        self.assertEqual(most_by_link(walk, plan)["fe"], ends)
        self.assertEqual(most_by_link(walk, plan)["ld"], x * sizes[0] * sizes[1] * sizes[2])
        self.assertEqual(len(classes), 1 + 8 * 16 + 2 * (1 + 2 + 4 + 8))
        self.assertEqual(sum([answers.times for answers in classes]), most(walk, plan))


class Stores(NumberTest):
    """No store asks more, and full ones ask and keep so much."""

    def test_small_stores(self):
        chance = random.Random(17)
        for turn in range(600):
            schema = wide_schema(chance) if turn % 2 else chance_schema(chance)
            finds = chance_finds(chance, schema.kinds())
            walk, plan = chance_walk(chance, schema, finds, chance.random() < 0.5)[0], chance_plan(chance, schema)
            store = chance_store(chance, schema)
            roots = chance_roots(chance, store, finds)
            sizes = least_sizes(walk, store, roots)
            self.assertIsNone(sizes.fault(store, roots))
            session = Session(store, plan)
            session.run(walk, roots)
            self.assertLessEqual(len(session), most(walk, plan)(sizes))
            self.assertLessEqual(len(session.objects()), most_kept(walk, plan)(sizes))

    def test_full_stores(self):
        chance, behind = random.Random(18), 0
        for turn in range(500):
            schema = wide_schema(chance) if turn % 2 else chance_schema(chance)
            finds = chance_finds(chance, schema.kinds())
            walk, plan = chance_walk(chance, schema, finds, chance.random() < 0.5)[0], chance_plan(chance, schema)
            sizes = chance_sizes(chance, walk)
            if most_kept(walk, plan)(sizes) > 500:
                continue
            store, roots = full_store(walk, plan, sizes)
            self.assertIsNone(sizes.fault(store, roots))
            session = Session(store, plan)
            session.run(walk, roots)
            self.assertEqual(len(session), most(walk, plan)(sizes))
            self.assertEqual([len(session.objects()), len(store)], [most_kept(walk, plan)(sizes)] * 2)
            self.check_classes(walk, plan, session, sizes)
            behind += len([answers for answers in answer_classes(walk, plan) if answers.behind and answers.behind.behind])
        self.assertGreater(behind, 100)

    def check_classes(self, walk, plan, session, sizes):
        """Each label and link has as many questions as its classes tell, and they bring as many objects."""
        wanted, brought = {}, {}
        for question in session.log():
            at = (question.label, question.link_name)
            wanted[at] = wanted.get(at, 0) + 1
            brought[at] = brought.get(at, 0) + len(question.brought)
        told, new = {}, {}
        for answers in answer_classes(walk, plan):
            at = (answers.label, answers.link_name)
            told[at] = told.get(at, 0) + answers.times(sizes)
            new[at] = new.get(at, 0) + sum([weight(walk, place)(sizes) for place in answers.new.rows()])
        self.assertEqual([told, new], [wanted, brought])
        by_link = {link: total(sizes) for link, total in most_by_link(walk, plan).items()}
        self.assertEqual(by_link, session.by_link())
        growing = [answers for answers in answer_classes(walk, plan) if answers.times.degree > 0]
        self.assertEqual(first_growing(walk, plan), growing[0] if growing else None)


if __name__ == "__main__":
    unittest.main()
