"""Sessions: the questions of runs, what is kept, and plans that change in between."""

import random
import unittest

from chance import SlowSession, chance_finds, chance_plan, chance_roots, chance_schema, chance_store, chance_walk, told
from chance import wide_schema
from fetchwalks.errors import InvalidPlan, InvalidRoots, InvalidStore, NoWalk, OtherSchema
from fetchwalks.plans import Plan
from fetchwalks.runs import touches
from fetchwalks.schemas import Schema
from fetchwalks.sessions import AheadQuestion, FindQuestion, Late, ListQuestion, ObjectQuestion, Question, Session
from fetchwalks.sessions import questions
from fetchwalks.stores import Store
from fetchwalks.walks import Walk
from samples import ODD, rich_schema, rich_store, row_a, row_b, shop_schema


def shop_store():
    """Customer 1 has the orders 1, 2 and 3, customer 2 has none; order 4 has no customer."""
    store = Store(shop_schema())
    store += [("customer", 1, {}), ("customer", 2, {}), ("shop", 1, {}), ("shop", 2, {})]
    store += [("order", number, {"buyer": 1, "place": place}) for number, place in ((1, 1), (2, 2), (3, None))]
    store["order", 4] = {"buyer": None, "place": 1}
    return store


def find(*body, name="o", kind="order", word="many"):
    return ("find", name, kind, word, body)


def shop_walk(*body, **named):
    return Walk(shop_schema(), [find(*body, **named)])


GO_BUYER = ("go", "o", "buyer", "c", ())
GO_PLACE = ("go", "o", "place", "s", ())
LOOP = ("go", "o", "buyer", "c", (("for", "c", "orders", "p", ()),))
DEEP = ("go", "o", "buyer", "c", (("for", "c", "orders", "p", (("go", "p", "place", "s", ()),)),))


def shop_log(walk, roots, **words):
    return [told(question) for question in questions(shop_store(), Plan.of(shop_schema(), **words), walk, roots)]


def orders(*numbers):
    return [("order", number) for number in numbers]


class SessionTest(unittest.TestCase):
    def raises(self, error, attributes, ask, *arguments):
        with self.assertRaises(error) as caught:
            ask(*arguments)
        self.assertEqual(vars(caught.exception), attributes)


class LateLinks(SessionTest):
    def test_finds(self):
        wanted = [("find", None, "o", None, orders(1, 3), [], None)]
        self.assertEqual(shop_log(shop_walk(), {"o": [3, 1]}), wanted)

    def test_a_find_without_roots(self):
        wanted = [("find", None, "o", None, [], [], None)]
        for words in ({}, {"buyer": "along", "place": "ahead"}):
            self.assertEqual(shop_log(shop_walk(GO_BUYER), {"o": []}, **words), wanted)

    def test_objects_are_asked_for_once(self):
        log = shop_log(shop_walk(GO_BUYER, GO_PLACE), {"o": [1, 2, 4]})
        self.assertEqual(log[1:], [
            ("object", "buyer", None, 1, [("customer", 1)], [], None),
            ("object", "place", None, 1, [("shop", 1)], [], None),
            ("object", "place", None, 2, [("shop", 2)], [], None),
        ])

    def test_lists_bring_what_is_not_kept(self):
        log = shop_log(shop_walk(LOOP), {"o": [2, 1]})
        self.assertEqual(log[2:], [("list", "orders", None, 1, orders(3), [("orders", 1)], None)])

    def test_lists_without_members(self):
        walk = shop_walk(("for", "o", "orders", "p", ()), kind="customer")
        wanted = [("find", None, "o", None, [("customer", 2)], [], None),
                  ("list", "orders", None, 2, [], [("orders", 2)], None)]
        self.assertEqual(shop_log(walk, {"o": [2]}), wanted)

    def test_empty_fields(self):
        self.assertEqual(len(shop_log(shop_walk(GO_BUYER), {"o": [4]})), 1)
        self.assertEqual(len(shop_log(shop_walk(GO_PLACE), {"o": [3]})), 1)

    def test_objects_that_are_roots_of_two_finds(self):
        walk = Walk(shop_schema(), [find(GO_BUYER), find(name="p"), find(name="c", kind="customer", word="one")])
        log = shop_log(walk, {"o": [1], "p": [1, 2], "c": [1]})
        self.assertEqual([row[4] for row in log], [orders(1), [("customer", 1)], orders(2), []])
        self.assertEqual([row[2] for row in log], ["o", None, "p", "c"])


class Along(SessionTest):
    def test_fields(self):
        log = shop_log(shop_walk(GO_BUYER, GO_PLACE), {"o": [1, 2, 4]}, buyer="along")
        self.assertEqual(log[0], ("find", None, "o", None, [("customer", 1)] + orders(1, 2, 4), [], None))
        self.assertEqual([row[0] for row in log], ["find", "object", "object"])

    def test_lists_and_chains(self):
        log = shop_log(shop_walk(DEEP), {"o": [1]}, buyer="along", orders="along", place="along")
        everything = [("customer", 1)] + orders(1, 2, 3) + [("shop", 1), ("shop", 2)]
        self.assertEqual(log, [("find", None, "o", None, everything, [("orders", 1)], None)])

    def test_only_of_what_is_brought(self):
        session = Session(shop_store())
        session.run(shop_walk(), {"o": [1]})
        session.plan = Plan.of(shop_schema(), buyer="along")
        session.run(shop_walk(GO_BUYER), {"o": [1]})
        # The order was kept already, so its customer does not come along.
        self.assertEqual([question.label for question in session.log()], ["find", "find", "object"])

    def test_of_an_object_and_of_members(self):
        log = shop_log(shop_walk(LOOP), {"o": [1]}, orders="along", place="along")
        self.assertEqual(log[0][4], orders(1) + [("shop", 1)])
        self.assertEqual(log[1], ("object", "buyer", None, 1, [("customer", 1)] + orders(2, 3) + [("shop", 2)],
                                  [("orders", 1)], None))
        self.assertEqual(len(log), 2)
        log = shop_log(shop_walk(LOOP), {"o": [1]}, place="along")
        self.assertEqual(log[2], ("list", "orders", None, 1, orders(2, 3) + [("shop", 2)], [("orders", 1)], None))

    def test_an_empty_list_is_kept(self):
        walk = shop_walk(("for", "o", "orders", "p", ()), kind="customer")
        log = shop_log(walk, {"o": [2]}, orders="along")
        self.assertEqual(log, [("find", None, "o", None, [("customer", 2)], [("orders", 2)], None)])


class Ahead(SessionTest):
    def test_fields(self):
        log = shop_log(shop_walk(GO_BUYER, GO_PLACE), {"o": [1, 2, 3, 4]}, buyer="ahead", place="ahead")
        self.assertEqual(log[1:], [
            ("ahead", "buyer", None, None, [("customer", 1)], [], 0),
            ("ahead", "place", None, None, [("shop", 1), ("shop", 2)], [], 0),
        ])

    def test_nothing_is_missed(self):
        self.assertEqual(len(shop_log(shop_walk(), {"o": [4]}, buyer="ahead")), 1)
        self.assertEqual(len(shop_log(shop_walk(), {"o": [3]}, place="ahead")), 1)
        walk = Walk(shop_schema(), [find(name="c", kind="customer"), find()])
        log = shop_log(walk, {"c": [1], "o": [1]}, buyer="ahead")
        self.assertEqual([row[0] for row in log], ["find", "find"])

    def test_lists_are_missed_whatever_their_members_are(self):
        walk = shop_walk(kind="customer")
        log = shop_log(walk, {"o": [2, 1]}, orders="ahead")
        self.assertEqual(log[1], ("ahead", "orders", None, None, orders(1, 2, 3), [("orders", 1), ("orders", 2)], 0))
        self.assertEqual(shop_log(walk, {"o": [2]}, orders="ahead")[1:],
                         [("ahead", "orders", None, None, [], [("orders", 2)], 0)])

    def test_a_question_that_brings_only_lists_has_nothing_behind_it(self):
        walk = Walk(shop_schema(), [find(), find(name="x", kind="customer")])
        log = shop_log(walk, {"o": [1, 2, 3], "x": [1]}, orders="ahead", place="ahead")
        self.assertEqual([row[:2] for row in log], [("find", None), ("ahead", "place"), ("find", None), ("ahead", "orders")])
        self.assertEqual(log[3][4:], ([], [("orders", 1)], 2))

    def test_ahead_behind_ahead(self):
        walk = shop_walk(kind="customer")
        log = shop_log(walk, {"o": [1]}, orders="ahead", place="ahead")
        self.assertEqual(log, [
            ("find", None, "o", None, [("customer", 1)], [], None),
            ("ahead", "orders", None, None, orders(1, 2, 3), [("orders", 1)], 0),
            ("ahead", "place", None, None, [("shop", 1), ("shop", 2)], [], 1),
        ])

    def test_answers_are_treated_in_their_sequence(self):
        schema = Schema(["a", "b", "c", "d"], {
            "ab": ("a", "b", None, False), "ac": ("a", "c", None, False),
            "bd": ("b", "d", None, False), "cd": ("c", "d", None, False),
        })
        store = Store(schema)
        store += [("a", 1, {"ab": 1, "ac": 1}), ("b", 1, {"bd": 1}), ("c", 1, {"cd": 2}), ("d", 1, {}), ("d", 2, {})]
        walk = Walk(schema, [("find", "x", "a", "one", ())])
        plan = Plan.of(schema, ab="ahead", ac="ahead", bd="ahead", cd="ahead")
        log = [told(question) for question in questions(store, plan, walk, {"x": [1]})]
        self.assertEqual([(row[1], row[6]) for row in log], [(None, None), ("ab", 0), ("ac", 0), ("bd", 1), ("cd", 2)])
        store["c", 1] = {"cd": 1}
        log = [told(question) for question in questions(store, plan, walk, {"x": [1]})]
        # What the one brought the other does not miss any more.
        self.assertEqual([(row[1], row[6]) for row in log], [(None, None), ("ab", 0), ("ac", 0), ("bd", 1)])

    def test_what_misses_is_looked_at_when_the_turn_comes(self):
        # The members that come ahead are those whose own field would be missed afterwards.
        schema = Schema(["a", "b"], {"f": ("a", "b", "l", False), "z": ("a", "b", None, False)})
        store = Store(schema)
        store += [("b", 1, {}), ("a", 1, {"f": 1, "z": 1}), ("a", 2, {"f": None, "z": 1})]
        walk = Walk(schema, [("find", "x", "a", "many", ())])
        log = [told(question) for question in questions(store, Plan.of(schema, f="ahead", z="ahead"), walk, {"x": [1, 2]})]
        self.assertEqual([row[1] for row in log], [None, "f"])

    def test_along_behind_ahead(self):
        walk = shop_walk(GO_BUYER)
        log = shop_log(walk, {"o": [1]}, buyer="ahead", orders="along")
        self.assertEqual(log[1], ("ahead", "buyer", None, None, [("customer", 1)] + orders(2, 3), [("orders", 1)], 0))
        self.assertEqual(len(log), 2)

    def test_behind_late_questions(self):
        log = shop_log(shop_walk(LOOP), {"o": [4, 1]}, place="ahead")
        self.assertEqual([(row[0], row[1], row[6]) for row in log], [
            ("find", None, None), ("ahead", "place", 0), ("object", "buyer", None), ("list", "orders", None),
            ("ahead", "place", 3),
        ])
        self.assertEqual(log[4][4], [("shop", 2)])


class Runs(SessionTest):
    def test_what_is_returned(self):
        walk = shop_walk(DEEP, GO_PLACE)
        session = Session(shop_store())
        wanted = list(touches(walk, shop_store(), {"o": [2, 4]}))
        self.assertEqual(session.run(walk, {"o": [2, 4]}), wanted)
        self.assertEqual(session.run(walk=walk, roots={"o": [2, 4]}), wanted)

    def test_done_again(self):
        session = Session(shop_store())
        walk = shop_walk(DEEP)
        session.run(walk, {"o": [1, 2]})
        before = session.log()
        session.run(walk, {"o": [1, 2]})
        self.assertEqual(session.log()[:len(before)], before)
        self.assertEqual([told(question) for question in session.log()[len(before):]],
                         [("find", None, "o", None, [], [], None)])

    def test_two_walks_one_behind_another(self):
        session = Session(shop_store())
        session.run(shop_walk(GO_BUYER), {"o": [1]})
        session.run(shop_walk(DEEP), {"o": [2]})
        self.assertEqual([question.label for question in session.log()],
                         ["find", "object", "find", "list", "object", "object"])
        self.assertEqual([question.behind for question in session.log()], [None] * 6)

    def test_touch_by_touch(self):
        session = Session(shop_store())
        counts = []
        for spot, number in session.walked(shop_walk(DEEP, GO_PLACE), {"o": [1, 2]}):
            counts.append((spot, number, len(session)))
        self.assertEqual(counts, [
            ((0,), 1, 1), ((0, 0), 1, 2), ((0, 0, 0), 1, 3), ((0, 0, 0, 0), 1, 4), ((0, 0, 0), 2, 4),
            ((0, 0, 0, 0), 2, 5), ((0, 0, 0), 3, 5), ((0, 1), 1, 5), ((0,), 2, 5), ((0, 0), 1, 5), ((0, 0, 0), 1, 5),
            ((0, 0, 0, 0), 1, 5), ((0, 0, 0), 2, 5), ((0, 0, 0, 0), 2, 5), ((0, 0, 0), 3, 5), ((0, 1), 2, 5),
        ])

    def test_empty_lists_and_finds_are_asked_for_when_their_turn_comes(self):
        body = (("for", "o", "orders", "p", ()), ("for", "o", "orders", "p", ()))
        walk = Walk(shop_schema(), [find(*body, kind="customer"), find(name="x"), find(name="y", kind="shop")])
        session = Session(shop_store())
        going = session.walked(walk, {"o": [2, 1], "x": [], "y": [1]})
        self.assertEqual([(next(going), len(session)) for _ in range(2)], [(((0,), 2), 1), (((0,), 1), 2)])
        self.assertEqual([(next(going), len(session)) for _ in range(6)][-1], (((0, 1), 3), 3))
        self.assertEqual((next(going), len(session)), (((2,), 1), 5))
        self.assertEqual((next(going, None), len(session)), (None, 5))

    def test_a_last_find_without_roots(self):
        walk = Walk(shop_schema(), [find(), find(name="x")])
        session = Session(shop_store())
        going = session.walked(walk, {"o": [1], "x": []})
        next(going)
        self.assertEqual(len(session), 1)
        self.assertIsNone(next(going, None))
        self.assertEqual(len(session), 2)

    def test_a_generator_that_is_given_up(self):
        session = Session(shop_store())
        going = session.walked(shop_walk(DEEP), {"o": [1]})
        self.assertEqual(len(session), 0)
        next(going)
        next(going)
        going.close()
        self.assertEqual([question.label for question in session.log()], ["find", "object"])
        self.assertEqual(session.objects(), [("customer", 1), ("order", 1)])

    def test_two_by_turns(self):
        session = Session(shop_store())
        one = session.walked(shop_walk(DEEP), {"o": [1]})
        other = session.walked(shop_walk(GO_PLACE), {"o": [1]})
        self.assertEqual([next(one), next(other), next(one), next(other)], [((0,), 1), ((0,), 1), ((0, 0), 1), ((0, 0), 1)])
        self.assertEqual([question.label for question in session.log()], ["find", "find", "object", "object"])
        self.assertEqual([next(one), next(one)], [((0, 0, 0), 1), ((0, 0, 0, 0), 1)])
        self.assertEqual([question.link_name for question in session.log()], [None, None, "buyer", "place", "orders"])

    def test_a_plan_that_is_changed_touch_by_touch(self):
        session = Session(shop_store())
        counts = []
        for spot, number in session.walked(shop_walk(DEEP), {"o": [1]}):
            counts.append((spot, number, len(session)))
            session.plan = Plan.of(shop_schema(), orders="along", place="along")
        # With the customer the list, order 2 and its shop come along; order 1 was kept already, so its shop does not.
        self.assertEqual(counts, [((0,), 1, 1), ((0, 0), 1, 2), ((0, 0, 0), 1, 2), ((0, 0, 0, 0), 1, 3),
                                  ((0, 0, 0), 2, 3), ((0, 0, 0, 0), 2, 3), ((0, 0, 0), 3, 3)])
        self.assertEqual([question.link_name for question in session.log()], [None, "buyer", "place"])

    def test_errors_in_their_sequence(self):
        session = Session(shop_store())
        ask = [lambda walk, roots: session.run(walk, roots), lambda walk, roots: next(session.walked(walk, roots))]
        other = Walk(rich_schema(), [("find", "o", "b", "one", ())])
        for run in ask:
            for value in ODD + [shop_schema(), Walk]:
                self.raises(NoWalk, {"value": value}, run, value, None)
            for value in ODD + [[("o", [1])], {"o": [1], "x": []}]:
                self.raises(InvalidRoots, {"find": None}, run, shop_walk(), value)
            for value in ODD + [[9], [1, 1], [True], ["1"], {1: 1}]:
                if value not in ([], ()):
                    self.raises(InvalidRoots, {"find": "o"}, run, shop_walk(), {"o": value})
            self.raises(InvalidRoots, {"find": "o"}, run, shop_walk(word="one"), {"o": [1, 2]})
            self.raises(InvalidRoots, {"find": "o"}, run, other, {"o": [1]})
            self.raises(OtherSchema, {}, run, other, {"o": []})
        self.assertEqual([session.log(), session.objects(), session.lists()], [[], [], []])


class Told(SessionTest):
    def setUp(self):
        self.session = Session(shop_store(), Plan.of(shop_schema(), place="ahead"))
        self.session.run(shop_walk(LOOP), {"o": [1, 4]})

    def test_log(self):
        labels = [(question.label, question.link_name) for question in self.session.log()]
        self.assertEqual(labels, [("find", None), ("ahead", "place"), ("object", "buyer"), ("list", "orders"), ("ahead", "place")])
        self.session.log().clear()
        self.assertEqual(len(self.session), 5)
        self.session.log()[0].brought.clear()
        self.session.log()[3].brought_lists.clear()
        self.assertEqual([self.session.log()[0].brought, self.session.log()[3].brought_lists], [orders(1, 4), [("orders", 1)]])

    def test_kept(self):
        wanted = [("customer", 1)] + orders(1, 2, 3, 4) + [("shop", 1), ("shop", 2)]
        self.assertEqual([self.session.objects(), self.session.lists()], [wanted, [("orders", 1)]])
        self.session.objects().clear()
        self.session.lists().clear()
        self.assertEqual([len(self.session.objects()), len(self.session.lists())], [7, 1])

    def test_keeps(self):
        self.assertIs(self.session.keeps("order", 3), True)
        self.assertIs(self.session.keeps(kind="customer", number=2), False)
        self.assertIs(self.session.keeps_list("orders", 1), True)
        self.assertIs(self.session.keeps_list(link="orders", number=2), False)
        for value in ODD + [1.5, "1", [1], orders(1)]:
            for asked in (self.session.keeps("order", value), self.session.keeps(value, 1), self.session.keeps(value, value),
                          self.session.keeps_list("orders", value), self.session.keeps_list(value, 1)):
                self.assertIs(asked, False)

    def test_numbers(self):
        self.assertEqual(list(self.session.by_label().items()), [("ahead", 2), ("find", 1), ("list", 1), ("object", 1)])
        self.assertEqual(list(self.session.by_link().items()), [("buyer", 1), ("orders", 1), ("place", 2)])
        empty = Session(rich_store())
        self.assertEqual([len(empty), sum(empty.by_label().values()), list(empty.by_link())], [0, 0, rich_schema().links()])

    def test_copies(self):
        twin = self.session.copy()
        self.assertEqual([twin.log(), twin.objects(), twin.lists(), twin.plan, twin.store],
                         [self.session.log(), self.session.objects(), self.session.lists(), self.session.plan, shop_store()])
        twin.run(shop_walk(kind="customer"), {"o": [2]})
        twin.plan = Plan(shop_schema())
        self.assertEqual([len(self.session), len(twin), len(self.session.plan)], [5, 6, 1])
        self.session.run(shop_walk(kind="shop"), {"o": []})
        self.assertEqual([twin.keeps("customer", 2), self.session.keeps("customer", 2), len(twin)], [True, False, 6])
        self.assertIs(type(twin), Session)

    def test_what_was_passed_can_be_changed_later(self):
        store, plan = shop_store(), Plan(shop_schema())
        session = Session(store, plan)
        store["order", 4] = {"buyer": 2, "place": 2}
        plan["buyer"] = "along"
        self.assertEqual([session.store, session.plan], [shop_store(), Plan(shop_schema())])
        self.assertEqual(session.run(shop_walk(GO_BUYER), {"o": [4]}), [((0,), 4)])
        session.plan = plan
        plan["buyer"] = "ahead"
        self.assertEqual(session.plan["buyer"], "along")

    def test_store_and_plan_are_copies(self):
        self.session.store["shop", 9] = {}
        self.session.plan["buyer"] = "along"
        self.assertEqual([self.session.store, self.session.plan], [shop_store(), Plan.of(shop_schema(), place="ahead")])


class Plans(SessionTest):
    def test_without_a_plan_all_links_are_late(self):
        for session in (Session(shop_store()), Session(shop_store(), None), Session(store=shop_store(), plan=None)):
            self.assertEqual(session.plan, Plan(shop_schema()))

    def test_assigned_and_taken(self):
        for take in (lambda session, plan: setattr(session, "plan", plan), lambda session, plan: session.take_plan(plan)):
            session = Session(shop_store())
            session.run(shop_walk(GO_BUYER), {"o": [1]})
            self.assertIsNone(take(session, Plan.of(shop_schema(), buyer="along", place="ahead")))
            session.run(shop_walk(GO_BUYER), {"o": [1, 4]})
            self.assertEqual([question.label for question in session.log()], ["find", "object", "find", "ahead"])
            self.assertEqual(session.objects(), [("customer", 1)] + orders(1, 4) + [("shop", 1)])
        session.take_plan(plan=Plan(shop_schema()))
        self.assertEqual(session.plan, Plan(shop_schema()))

    def test_words_that_are_set_one_by_one(self):
        session = Session(shop_store())
        session.plan["place"] = "along"
        self.assertEqual(len(session.plan), 0)
        session.plan |= Plan.of(shop_schema(), place="along")
        self.assertEqual(session.plan["place"], "along")

    def test_errors(self):
        plan = Plan.of(shop_schema(), buyer="along")
        session = Session(shop_store(), plan)
        for value in ODD + [shop_schema(), plan]:
            self.raises(InvalidStore, {"value": value}, Session, value, value)
        for value in ODD + [shop_schema(), shop_store()]:
            self.raises(InvalidPlan, {"value": value}, session.take_plan, value)
            self.raises(InvalidPlan, {"value": value}, setattr, session, "plan", value)
            if value is not None:
                self.raises(InvalidPlan, {"value": value}, Session, shop_store(), value)
        self.raises(OtherSchema, {}, session.take_plan, Plan(rich_schema()))
        self.raises(OtherSchema, {}, setattr, session, "plan", Plan(rich_schema()))
        self.raises(OtherSchema, {}, Session, rich_store(), plan)
        self.assertEqual(session.plan, plan)


class Questions(SessionTest):
    def setUp(self):
        self.log = questions(shop_store(), Plan.of(shop_schema(), place="ahead"), shop_walk(LOOP), {"o": [1, 4]})

    def test_classes(self):
        wanted = [FindQuestion, AheadQuestion, ObjectQuestion, ListQuestion, AheadQuestion]
        self.assertEqual([type(question) for question in self.log], wanted)
        self.assertEqual([made.__bases__ for made in (FindQuestion, AheadQuestion)], [(Question,), (Question,)])
        for made in (ObjectQuestion, ListQuestion):
            self.assertTrue(issubclass(made, Question) and issubclass(made, Late))
        self.assertFalse(issubclass(FindQuestion, Late) or issubclass(AheadQuestion, Late) or issubclass(Late, Question))

    def test_shown(self):
        self.assertEqual([repr(question) for question in self.log], [
            "FindQuestion('find', None)", "AheadQuestion('ahead', 'place')", "ObjectQuestion('object', 'buyer')",
            "ListQuestion('list', 'orders')", "AheadQuestion('ahead', 'place')",
        ])

    def test_equality(self):
        again = questions(shop_store(), Plan.of(shop_schema(), place="ahead"), shop_walk(LOOP), {"o": [1, 4]})
        self.assertEqual(self.log, again)
        for one in range(5):
            for other in range(5):
                self.assertEqual(self.log[one] == again[other], one == other)
        for question in self.log:
            for value in ODD + [told(question), repr(question), self.log]:
                self.assertFalse(question == value)

    def test_each_property_counts(self):
        def only(walk, roots, at=-1, **words):
            return questions(shop_store(), Plan.of(shop_schema(), **words), walk, roots)[at]

        self.assertNotEqual(only(shop_walk(), {"o": [1]}), only(shop_walk(), {"o": [2]}))
        self.assertNotEqual(only(shop_walk(), {"o": []}), only(shop_walk(name="x"), {"x": []}))
        self.assertNotEqual(only(shop_walk(GO_PLACE), {"o": [1]}), only(shop_walk(GO_PLACE), {"o": [2]}))
        customers = shop_walk(kind="customer")
        self.assertNotEqual(only(customers, {"o": [2]}), only(customers, {"o": [2]}, orders="along"))
        self.assertNotEqual(only(customers, {"o": [2]}, orders="ahead"), only(customers, {"o": [1, 2]}, orders="ahead"))
        two = Walk(shop_schema(), [find(name="x"), find(name="c", kind="customer")])
        self.assertNotEqual(only(two, {"x": [], "c": [2]}, orders="ahead"),
                            only(customers, {"o": [2]}, orders="ahead"))
        self.assertEqual(only(two, {"x": [], "c": [2]}), only(Walk(shop_schema(), [find(name="c", kind="customer")]), {"c": [2]}))

    def test_the_log_of_a_new_session(self):
        plan = Plan.of(rich_schema(), f="ahead")
        walk = Walk(rich_schema(), [("find", "x", "a", "many", (("go", "x", "g", "y", ()),))])
        session = Session(rich_store(), plan)
        session.run(walk, {"x": [1, 2]})
        self.assertEqual(questions(store=rich_store(), plan=plan, walk=walk, roots={"x": [1, 2]}), session.log())

    def test_errors_in_their_sequence(self):
        walk, plan = shop_walk(), Plan(shop_schema())
        for value in ODD + [shop_schema()]:
            self.raises(InvalidStore, {"value": value}, questions, value, None, None, None)
            self.raises(InvalidPlan, {"value": value}, questions, shop_store(), value, None, None)
            self.raises(NoWalk, {"value": value}, questions, shop_store(), plan, value, None)
        self.raises(InvalidRoots, {"find": None}, questions, shop_store(), Plan(rich_schema()), walk, None)
        self.raises(InvalidRoots, {"find": "o"}, questions, rich_store(), plan, walk, {"o": [1]})
        self.raises(OtherSchema, {}, questions, rich_store(), plan, walk, {"o": []})
        self.raises(OtherSchema, {}, questions, shop_store(), Plan(rich_schema()), walk, {"o": [1]})
        self.raises(OtherSchema, {}, questions, rich_store(), Plan(rich_schema()), walk, {"o": []})


class Kinds(SessionTest):
    """Single fields, and fields from a kind to itself."""

    def log(self, store, walk, roots, **words):
        return [told(question) for question in questions(store, Plan.of(store.schema, **words), walk, roots)]

    def test_the_list_of_a_single_field(self):
        walk = Walk(rich_schema(), [("find", "x", "b", "many", (("for", "x", "m", "y", ()),))])
        self.assertEqual(self.log(rich_store(), walk, {"x": [1]})[1], ("list", "m", None, 1, [("a", 1)], [("m", 1)], None))
        log = self.log(rich_store(), walk, {"x": [1, 2]}, m="ahead", g="along")
        self.assertEqual(log, [("find", None, "x", None, [("b", 1), ("b", 2)], [], None),
                               ("ahead", "m", None, None, [("a", 1), ("a", 3)], [("m", 1), ("m", 2)], 0)])

    def test_a_field_from_a_kind_to_itself(self):
        body = (("go", "x", "p", "y", (("for", "y", "k", "z", ()),)),)
        walk = Walk(rich_schema(), [("find", "x", "a", "many", body)])
        self.assertEqual(self.log(rich_store(), walk, {"x": [2]})[1:], [
            ("object", "p", None, 1, [("a", 1)], [], None), ("list", "k", None, 1, [], [("k", 1)], None)])

    def test_tests(self):
        body = (("if", "x", "u", (("go", "x", "f", "y", ()),)), ("if", "x", "v", ()))
        walk = Walk(rich_schema(), [("find", "x", "a", "many", body)])
        self.assertEqual([row[3] for row in self.log(rich_store(), walk, {"x": [1, 2, 3]})], [None, 1])


class Chance(SessionTest):
    def test_as_the_document_tells_it(self):
        chance, aheads = random.Random(12), 0
        for turn in range(600):
            schema = wide_schema(chance) if turn % 2 else chance_schema(chance)
            finds = chance_finds(chance, schema.kinds())
            walk, _, _ = chance_walk(chance, schema, finds, chance.random() < 0.5)
            store, plan = chance_store(chance, schema), chance_plan(chance, schema)
            session, slow = Session(store, plan), SlowSession(store, plan, chance)
            for _ in range(2):
                roots = chance_roots(chance, store, finds)
                slow.seen = []
                slow.run(walk, walk.plain_finds, roots)
                self.assertEqual(session.run(walk, roots), slow.seen)
                self.assertEqual([told(question) for question in session.log()], slow.log)
                self.assertEqual([session.objects(), session.lists()], [sorted(slow.kept), sorted(slow.kept_lists)])
                plan = chance_plan(chance, schema)
                slow.plan = session.plan = plan
            behind = {row[6] for row in slow.log if row[6] is not None}
            aheads += len([at for at in behind if slow.log[at][6] is not None])
        self.assertGreater(aheads, 50)


if __name__ == "__main__":
    unittest.main()
