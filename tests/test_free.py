"""The free store, and what runs in new sessions ask and keep."""

import random
import unittest

from chance import chance_finds, chance_plan, chance_roots, chance_schema, chance_sizes, chance_store, chance_walk
from chance import full_store, wide_schema
from fetchwalks.errors import InvalidPlan, InvalidRoots, InvalidSizes, InvalidStore, NoWalk, OtherFinds, OtherSchema, TooMany
from fetchwalks.free import asked_and_kept, free_store
from fetchwalks.numbers import most, most_by_link, most_kept
from fetchwalks.places import kept_places
from fetchwalks.plans import Plan
from fetchwalks.runs import touched
from fetchwalks.sessions import Session, questions
from fetchwalks.sizes import Sizes
from fetchwalks.stores import Store
from fetchwalks.walks import Walk
from samples import ODD, layered_schema, layered_words, rich_schema, rich_store, row_a, row_b, shop_schema, tree_body

DEEP = ("go", "o", "buyer", "c", (("for", "c", "orders", "p", (("go", "p", "place", "s", ()),)),))


def shop_walk(*body, word="many", name="o"):
    return Walk(shop_schema(), [("find", name, "order", word, body)])


def rich_walk(*body, kind="a", word="many"):
    return Walk(rich_schema(), [("find", "x", kind, word, body)])


def made(walk, words, *sizes):
    """The rows and the roots of the free store."""
    store, roots = free_store(walk, Plan.of(walk.schema, **words), Sizes.of(walk, *sizes))
    return (store.rows(), roots)


class FreeTest(unittest.TestCase):
    def raises(self, error, attributes, ask, *arguments):
        with self.assertRaises(error) as caught:
            ask(*arguments)
        self.assertEqual(vars(caught.exception), attributes)


class Rows(FreeTest):
    def test_roots_alone(self):
        blank = {"buyer": None, "place": None}
        self.assertEqual(made(shop_walk(), {}, ("find", "o", 2)), ([("order", 1, blank), ("order", 2, blank)], {"o": [1, 2]}))
        self.assertEqual(made(shop_walk(word="one"), {}), ([("order", 1, blank)], {"o": [1]}))

    def test_numbers_place_by_place(self):
        rows, roots = made(shop_walk(DEEP), {}, ("find", "o", 2), ("list", "orders", 3))
        self.assertEqual(roots, {"o": [1, 2]})
        # Other members are numbered customer by customer; their shops come behind.
        self.assertEqual(rows, [("customer", 1, {}), ("customer", 2, {})] + [
            ("order", number, {"buyer": buyer, "place": place})
            for number, buyer, place in ((1, 1, 1), (2, 2, 2), (3, 1, 3), (4, 1, 4), (5, 2, 5), (6, 2, 6))
        ] + [("shop", number, {}) for number in range(1, 7)])

    def test_places_of_one_length_are_sorted(self):
        walk = rich_walk(("go", "x", "h", "y", ()), ("go", "x", "f", "z", ()), ("for", "x", "k", "w", ()))
        rows, roots = made(walk, {}, ("find", "x", 2), ("list", "k", 2))
        full = {"u": True, "v": True}
        self.assertEqual(rows, [
            ("a", 1, row_a(f=1, h=3, **full)), ("a", 2, row_a(f=2, h=4, **full)),
            ("a", 3, row_a(p=1, **full)), ("a", 4, row_a(p=1, **full)), ("a", 5, row_a(p=2, **full)), ("a", 6, row_a(p=2, **full)),
        ] + [("b", number, row_b(w=True)) for number in range(1, 5)])
        self.assertEqual(roots, {"x": [1, 2]})

    def test_several_finds(self):
        finds = [("find", "y", "a", "many", ()), ("find", "b", "b", "one", ()), ("find", "x", "a", "one", ())]
        rows, roots = made(Walk(rich_schema(), finds), {}, ("find", "y", 2))
        # The places of the finds are sorted; the roots are told by sorted names.
        self.assertEqual(list(roots.items()), [("b", [1]), ("x", [1]), ("y", [2, 3])])
        self.assertEqual([row[:2] for row in rows], [("a", 1), ("a", 2), ("a", 3), ("b", 1)])

    def test_single_fields_and_their_lists(self):
        walk = rich_walk(("go", "x", "g", "y", (("for", "y", "m", "z", ()),)))
        rows, _ = made(walk, {}, ("find", "x", 2))
        # The list of a single field leads back right behind it: nobody else is there.
        self.assertEqual([row[:2] for row in rows], [("a", 1), ("a", 2), ("b", 1), ("b", 2)])
        self.assertEqual([row[2]["g"] for row in rows[:2]], [1, 2])
        walk = rich_walk(("for", "x", "m", "y", ()), kind="b")
        rows, roots = made(walk, {}, ("find", "x", 2))
        self.assertEqual(rows, [("a", 1, row_a(g=1, u=True, v=True)), ("a", 2, row_a(g=2, u=True, v=True)),
                                ("b", 1, row_b(w=True)), ("b", 2, row_b(w=True))])
        self.assertEqual(roots, {"x": [1, 2]})

    def test_lists_that_do_not_turn_back(self):
        walk = rich_walk(("for", "x", "l", "y", (("for", "y", "k", "z", ()),)), kind="b")
        rows, _ = made(walk, {}, ("find", "x", 1), ("list", "l", 2), ("list", "k", 3))
        self.assertEqual([row[2]["f"] for row in rows[:8]], [1, 1] + [None] * 6)
        self.assertEqual([row[2]["p"] for row in rows[:8]], [None] * 2 + [1] * 3 + [2] * 3)

    def test_a_find_with_the_name_of_a_field(self):
        # This list is not behind its own field, though the name ahead of it is the same.
        walk = Walk(shop_schema(), [("find", "buyer", "customer", "many", (("for", "buyer", "orders", "p", ()),))])
        rows, roots = made(walk, {}, ("find", "buyer", 2), ("list", "orders", 3))
        self.assertEqual([roots, [row[2]["buyer"] for row in rows if row[0] == "order"]], [{"buyer": [1, 2]}, [1, 1, 1, 2, 2, 2]])

    def test_fields_that_lead_back_and_on(self):
        # The plan keeps places that the walk does not touch: these have fields, too.
        rows, _ = made(shop_walk(), {"buyer": "along", "orders": "ahead", "place": "ahead"}, ("list", "orders", 2))
        self.assertEqual(rows, [
            ("customer", 1, {}), ("order", 1, {"buyer": 1, "place": 1}), ("order", 2, {"buyer": 1, "place": 2}),
            ("shop", 1, {}), ("shop", 2, {}),
        ])

    def test_what_was_told_can_be_changed(self):
        walk, plan = shop_walk(DEEP), Plan(shop_schema())
        sizes = Sizes.of(walk, ("find", "o", 2))
        store, roots = free_store(walk=walk, plan=plan, sizes=sizes)
        store["order", 1] = {"buyer": None, "place": None}
        roots["o"].append(9)
        self.assertEqual(free_store(walk, plan, sizes), made_again(walk, plan, sizes))
        self.assertEqual([sizes, plan], [Sizes.of(walk, ("find", "o", 2)), Plan(shop_schema())])


def made_again(walk, plan, sizes):
    return free_store(Walk(walk.schema, [("find", "o", "order", "many", (DEEP,))]), plan.copy(), sizes.copy())


class Greatness(FreeTest):
    def test_just_passed_and_just_not(self):
        walk = shop_walk()
        plan = Plan(shop_schema())
        self.assertEqual(len(free_store(walk, plan, Sizes.of(walk, ("find", "o", 2000)))[0]), 2000)
        walk = shop_walk(DEEP)
        # 20 orders, their customers, 20 times 48 others, and a shop for each order.
        store, roots = free_store(walk, plan, Sizes.of(walk, ("find", "o", 20), ("list", "orders", 49)))
        self.assertEqual([len(store), roots["o"][-1]], [1980, 20])
        self.assertEqual(asked_and_kept(walk, plan, store, roots), (1021, 1980))
        for sizes in ((2001, 2), (20, 50), (1, 1001), (10 ** 30, 2), (1, 10 ** 30), (10 ** 30, 10 ** 30)):
            sizes = Sizes.of(walk, ("find", "o", sizes[0]), ("list", "orders", sizes[1]))
            self.raises(TooMany, {"what": "objects", "limit": 2000}, free_store, walk, plan, sizes)

    def test_great_places_come_first(self):
        walk = Walk(layered_schema(), [("find", "x", "a", "many", tree_body(101))])
        plan = Plan.of(layered_schema(), **layered_words("along"))
        self.raises(TooMany, {"what": "places", "limit": 2000}, free_store, walk, plan, Sizes.of(walk, ("find", "x", 10 ** 30)))
        walk = Walk(layered_schema(), [("find", "x", "a", "many", tree_body(100))])
        store, roots = free_store(walk, plan, Sizes(walk))
        self.assertEqual([len(store), roots], [2000, {"x": [1]}])
        self.raises(TooMany, {"what": "objects", "limit": 2000}, free_store, walk, plan, Sizes.of(walk, ("find", "x", 2)))


class Errors(FreeTest):
    def test_free_store(self):
        walk, plan = shop_walk(), Plan(shop_schema())
        other = Walk(rich_schema(), [("find", "o", "a", "many", ())])
        for value in ODD + [plan]:
            self.raises(NoWalk, {"value": value}, free_store, value, value, value)
        for value in ODD + [walk]:
            self.raises(InvalidPlan, {"value": value}, free_store, walk, value, value)
        for value in ODD + [plan, {("find", "o"): 1}]:
            self.raises(InvalidSizes, {"value": value}, free_store, walk, Plan(rich_schema()), value)
        self.raises(OtherSchema, {}, free_store, walk, Plan(rich_schema()), Sizes(shop_walk(name="p")))
        self.raises(OtherSchema, {}, free_store, walk, plan, Sizes(other))
        for twin in (shop_walk(name="p"), shop_walk(word="one"), walk | shop_walk(name="p")):
            self.raises(OtherFinds, {"one": [("o", "order", "many")], "other": twin.finds()}, free_store, walk, plan, Sizes(twin))

    def test_asked_and_kept(self):
        walk, plan, store = shop_walk(), Plan(shop_schema()), Store(shop_schema())
        for value in ODD + [store]:
            self.raises(NoWalk, {"value": value}, asked_and_kept, value, value, value, value)
        for value in ODD + [walk]:
            self.raises(InvalidPlan, {"value": value}, asked_and_kept, walk, value, value, value)
        for value in ODD + [plan]:
            self.raises(InvalidStore, {"value": value}, asked_and_kept, walk, plan, value, value)
        for value in ODD + [{"o": [1], "p": []}, [("o", [])]]:
            self.raises(InvalidRoots, {"find": None}, asked_and_kept, walk, plan, store, value)
        for value in ([1], None, [True], {}, 1):
            self.raises(InvalidRoots, {"find": "o"}, asked_and_kept, walk, Plan(rich_schema()), store, {"o": value})
        # The kind order has no objects in a store of another schema.
        self.raises(InvalidRoots, {"find": "o"}, asked_and_kept, walk, plan, rich_store(), {"o": [1]})
        self.raises(OtherSchema, {}, asked_and_kept, walk, Plan(rich_schema()), store, {"o": []})
        self.raises(OtherSchema, {}, asked_and_kept, walk, plan, rich_store(), {"o": []})


class Runs(FreeTest):
    def test_stores_of_any_kind(self):
        store = Store(shop_schema())
        store += [("customer", 1, {}), ("shop", 7, {}), ("order", 1, {"buyer": 1, "place": 7}), ("order", 2, {"buyer": 1, "place": None})]
        late, early = Plan(shop_schema()), Plan.of(shop_schema(), buyer="along", place="ahead")
        for plan, roots, wanted in ((late, {"o": [1, 2]}, (4, 4)), (late, {"o": []}, (1, 0)), (early, {"o": (2,)}, (3, 4)),
                                    (early, {"o": [1]}, (3, 4))):
            self.assertEqual(asked_and_kept(walk=shop_walk(DEEP), plan=plan, store=store, roots=roots), wanted)

    def test_made_by_chance(self):
        chance = random.Random(31)
        for _ in range(150):
            schema, finds = chance_schema(chance), chance_finds(chance)
            walk, _, _ = chance_walk(chance, schema, finds, True)
            store, plan = chance_store(chance, schema), chance_plan(chance, schema)
            roots = chance_roots(chance, store, finds)
            asked, kept = asked_and_kept(walk, plan, store, roots)
            self.assertEqual(asked, len(questions(store, plan, walk, roots)))
            session = Session(store, plan)
            session.run(walk, roots)
            self.assertEqual(kept, len(session.objects()))

    def test_free_stores_ask_and_keep_most(self):
        chance = random.Random(32)
        words, much = set(), 0
        for number in range(500):
            schema = chance_schema(chance) if number % 3 else wide_schema(chance)
            walk, _, _ = chance_walk(chance, schema, chance_finds(chance, schema.kinds()), True)
            plan, sizes = chance_plan(chance, schema), chance_sizes(chance, walk)
            if len(kept_places(walk, plan)) > 300 or most_kept(walk, plan)(sizes) > 1000:
                continue
            much += 1
            words.update(plan.words().values())
            store, roots = free_store(walk, plan, sizes)
            self.assertIsNone(sizes.fault(store, roots))
            self.assertEqual(asked_and_kept(walk, plan, store, roots), (most(walk, plan)(sizes), most_kept(walk, plan)(sizes)))
            session = Session(store, plan)
            session.run(walk, roots)
            self.assertEqual(session.by_link(), {link: total(sizes) for link, total in most_by_link(walk, plan).items()})
            # The numbers apart, it is the store that the tests make for themselves.
            slow, slow_roots = full_store(walk, plan, sizes)
            self.assertEqual([len(store), {name: len(ids) for name, ids in roots.items()}],
                             [len(slow), {name: len(ids) for name, ids in slow_roots.items()}])
            self.assertEqual(len(touched(walk, store, roots)), len(touched(walk, slow, slow_roots)))
        self.assertGreater(much, 300)
        self.assertEqual(words, {"late", "along", "ahead"})

    def test_all_objects_of_a_free_store_are_kept(self):
        walk = Walk(rich_schema(), [("find", "x", "a", "many", (("for", "x", "k", "y", (("go", "y", "f", "z", ()),)),))])
        for words in ({}, {"f": "along", "l": "along"}, {"g": "ahead", "h": "along"}):
            plan = Plan.of(rich_schema(), **words)
            store, roots = free_store(walk, plan, Sizes.of(walk, ("find", "x", 3), ("list", "k", 3)))
            session = Session(store, plan)
            session.run(walk, roots)
            self.assertEqual(session.objects(), [row[:2] for row in store.rows()])


if __name__ == "__main__":
    unittest.main()
