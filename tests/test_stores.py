"""Stores: rows, what is refused, and what they tell."""

import unittest

from fetchwalks.errors import InvalidId, InvalidRow, InvalidRows, RowRefused, TargetTaken, TooMany
from fetchwalks.errors import UnknownKind, UnknownLink, UnknownObject, UnknownTarget
from fetchwalks.schemas import Schema
from fetchwalks.stores import Store
from samples import ODD, rich_schema, rich_store, row_a, row_b, shop_schema

NO_IDS = [None, True, False, 0, -1, 10 ** 9 + 1, 10 ** 400, "1", b"1", [], [1], {}, (), (1,), object()]


def put(store, kind, number, row):
    store[kind, number] = row


def add(store, rows):
    store += rows


class StoreTest(unittest.TestCase):
    def setUp(self):
        self.store = rich_store()

    def unchanged(self):
        self.assertEqual(self.store, rich_store())
        for number in (1, 2):
            for link in ("l", "m"):
                self.assertEqual(self.store.members(link, number), rich_store().members(link, number))

    def raises(self, error, attributes, ask, *arguments):
        with self.assertRaises(error) as caught:
            ask(*arguments)
        self.assertEqual(vars(caught.exception), attributes)
        return caught.exception

    def refused(self, kind, number, cause, attributes, ask, *arguments):
        error = self.raises(RowRefused, {"kind": kind, "number": number}, ask, *arguments)
        self.assertIs(type(error.__cause__), cause)
        self.assertEqual(vars(error.__cause__), attributes)
        self.unchanged()


class Rows(StoreTest):
    def test_set_changed_and_asked(self):
        self.store["b", 7] = row_b(w=True)
        self.assertEqual(self.store["b", 7], {"i": None, "w": True})
        self.store["a", 1] = row_a(f=7)
        self.assertEqual(self.store["a", 1], row_a(f=7))
        self.assertEqual([self.store.members("l", 1), self.store.members("l", 7)], [[2], [1]])
        self.store["a", 1] = row_a()
        self.assertEqual([self.store.members("l", 7), len(self.store)], [[], 6])

    def test_the_keys_of_rows_are_sorted(self):
        self.store["b", 1] = {"w": False, "i": 2}
        self.assertEqual(list(self.store["b", 1]), ["i", "w"])
        self.assertEqual(list(self.store.rows()[-2][2]), ["i", "w"])

    def test_the_greatest_id(self):
        self.store["b", 10 ** 9] = row_b()
        self.store["a", 1] = row_a(f=10 ** 9)
        self.assertEqual(self.store.members("l", 10 ** 9), [1])

    def test_unknown_kinds(self):
        for value in ODD + ["f", "c", ["a"], ("a",)]:
            self.raises(UnknownKind, {"value": value}, put, self.store, value, 0, None)
        self.unchanged()

    def test_invalid_ids(self):
        for value in NO_IDS:
            self.raises(InvalidId, {"value": value}, put, self.store, "a", value, None)
        self.unchanged()

    def test_rows_without_exactly_these_keys(self):
        spoilt = row_a()
        del spoilt["u"]
        for value in [None, True, 1, "a", [], (), {}, row_b(), spoilt, {**spoilt, 1: False}, {**row_a(), "w": False}]:
            self.raises(InvalidRow, {"name": None}, put, self.store, "a", 1, value)
            self.raises(InvalidRow, {"name": None}, put, self.store, "a", 9, value)
        self.raises(InvalidRow, {"name": None}, put, self.store, "a", 9, {**spoilt, ("u",): False})
        self.raises(InvalidRow, {"name": None}, put, self.store, "a", 9, list(row_a().items()))
        self.unchanged()

    def test_values_of_fields(self):
        for value in NO_IDS[1:]:
            self.raises(InvalidRow, {"name": "g"}, put, self.store, "a", 1, row_a(g=value, h=value, u=None))

    def test_values_of_flags(self):
        for value in [None, 0, 1, "True", "", [], (), {}, [True], (False,)]:
            self.raises(InvalidRow, {"name": "u"}, put, self.store, "a", 1, row_a(u=value, v=value))
        self.raises(InvalidRow, {"name": "g"}, put, self.store, "a", 1, row_a(g=0, u=None))
        self.raises(InvalidRow, {"name": "q"}, put, self.store, "a", 1, row_a(q=0, u=None))
        self.unchanged()

    def test_the_sequence_of_the_errors(self):
        self.raises(UnknownKind, {"value": "c"}, put, self.store, "c", 0, None)
        self.raises(InvalidId, {"value": 0}, put, self.store, "a", 0, None)
        self.raises(InvalidRow, {"name": None}, put, self.store, "a", 1, None)
        self.raises(InvalidRow, {"name": "p"}, put, self.store, "a", 1, row_a(f=99, p=-1))

    def test_fields_and_flags_are_sorted_together(self):
        store = Store(Schema(["a"], {"d": ("a", "a", None, False), "b": ("a", "a", None, False)}, {"e": "a", "c": "a"}))
        row = {"e": True, "d": None, "c": False, "b": None}
        store["a", 1] = row
        self.assertEqual(list(store["a", 1].items()), [("b", None), ("c", False), ("d", None), ("e", True)])
        self.raises(InvalidRow, {"name": "c"}, put, store, "a", 1, {**row, "d": 0, "c": 0})
        self.raises(InvalidRow, {"name": "b"}, put, store, "a", 1, {**row, "b": 0, "c": 0})
        error = self.raises(RowRefused, {"kind": "a", "number": 1}, put, store, "a", 1, {**row, "d": 8, "b": 9})
        self.assertEqual(vars(error.__cause__), {"field": "b", "number": 9})

    def test_unknown_targets(self):
        self.refused("a", 9, UnknownTarget, {"field": "f", "number": 3}, put, self.store, "a", 9, row_a(f=3, g=4, p=8))
        self.refused("a", 1, UnknownTarget, {"field": "h", "number": 9}, put, self.store, "a", 1, row_a(g=2, h=9))
        # An object of another kind with this ID is no target.
        self.refused("a", 1, UnknownTarget, {"field": "f", "number": 3}, put, self.store, "a", 1, row_a(f=3))

    def test_taken_targets(self):
        self.refused("a", 9, TargetTaken, {"field": "g", "number": 1, "by": 1}, put, self.store, "a", 9, row_a(g=1, q=1))
        self.refused("a", 9, TargetTaken, {"field": "q", "number": 1, "by": 2}, put, self.store, "a", 9, row_a(q=1))
        self.refused("a", 3, TargetTaken, {"field": "g", "number": 1, "by": 1}, put, self.store, "a", 3, row_a(g=1))

    def test_an_unknown_target_comes_ahead_of_a_taken_one(self):
        self.refused("a", 9, UnknownTarget, {"field": "q", "number": 8}, put, self.store, "a", 9, row_a(g=1, q=8))

    def test_its_own_single_target_can_be_set_again(self):
        self.store["a", 1] = row_a(g=1, u=True)
        self.assertEqual(self.store.members("m", 1), [1])

    def test_a_target_that_was_given_up_is_free(self):
        self.store["a", 1] = row_a()
        self.store["a", 9] = row_a(g=1)
        self.assertEqual(self.store.members("m", 1), [9])

    def test_an_object_can_be_its_own_target(self):
        self.store["a", 9] = row_a(p=9, q=9)
        self.assertEqual([self.store.members("k", 9), self.store.members("n", 9)], [[9], [9]])
        self.refused_own()

    def refused_own(self):
        error = self.raises(RowRefused, {"kind": "a", "number": 8}, put, self.store, "a", 8, row_a(q=9))
        self.assertEqual(vars(error.__cause__), {"field": "q", "number": 9, "by": 9})

    def test_what_was_passed_can_be_changed_later(self):
        row = row_b()
        self.store["b", 3] = row
        row["w"] = True
        self.assertEqual(self.store["b", 3], row_b())


class Asked(StoreTest):
    def test_unknown_objects(self):
        for kind, number in [("a", 9), ("b", 3), ("c", 1), ("f", 1), ("a", True), ("b", "1"), (1, "a"), ("a", None)]:
            self.raises(UnknownObject, {"kind": kind, "number": number}, self.store.__getitem__, (kind, number))
        for value in ODD:
            self.raises(UnknownObject, {"kind": value, "number": 1}, self.store.__getitem__, (value, 1))
            self.raises(UnknownObject, {"kind": "a", "number": value}, self.store.__getitem__, ("a", value))
            self.raises(UnknownObject, {"kind": value, "number": value}, self.store.__getitem__, (value, value))

    def test_in(self):
        self.assertTrue(("a", 1) in self.store)
        self.assertTrue(("b", 2) in self.store)
        wrong = [("a", 4), ("b", 3), ("c", 1), ["a", 1], ("a", True), ("a", "1"), ("a", 1, 1), ("a",), (["a"], 1), ("a", [1])]
        wrong += [("a", {}), ({}, {}), (1, "a"), "a1", ("a", 1, row_a()), (("a", 1),), 1, "a", self.store, (None, None)]
        for value in ODD + wrong:
            self.assertFalse(value in self.store)
            self.assertTrue(value not in self.store)

    def test_len(self):
        self.assertEqual([len(Store(rich_schema())), len(self.store)], [0, 5])

    def test_ids(self):
        self.store["b", 10] = row_b()
        self.store["b", 9] = row_b()
        self.assertEqual([self.store.ids("a"), self.store.ids(kind="b")], [[1, 2, 3], [1, 2, 9, 10]])
        for value in ODD + ["f", "c"]:
            self.raises(UnknownKind, {"value": value}, self.store.ids, value)

    def test_members(self):
        asked = [self.store.members(*pair) for pair in [("l", 1), ("l", 2), ("m", 1), ("m", 2), ("k", 1), ("k", 2), ("n", 1)]]
        self.assertEqual(asked, [[1, 2], [3], [1], [3], [1, 2], [], [2]])
        self.assertEqual(self.store.members(number=1, link="l"), [1, 2])

    def test_members_ascend(self):
        for number in (30, 4, 12, 20):
            self.store["a", number] = row_a(f=2)
        self.assertEqual(self.store.members("l", 2), [3, 4, 12, 20, 30])

    def test_members_by_no_list(self):
        for value in ODD + ["f", "g", "i", "u", "c"]:
            self.raises(UnknownLink, {"value": value}, self.store.members, value, 0)

    def test_members_of_no_object(self):
        for value in ODD + [9, 3]:
            self.raises(UnknownObject, {"kind": "b", "number": value}, self.store.members, "l", value)
        self.raises(UnknownObject, {"kind": "a", "number": 4}, self.store.members, "k", 4)

    def test_rows(self):
        rows = self.store.rows()
        self.assertEqual([row[:2] for row in rows], [("a", 1), ("a", 2), ("a", 3), ("b", 1), ("b", 2)])
        self.assertEqual(rows[2], ("a", 3, row_a(f=2, g=2, v=True)))
        self.assertEqual(Store(rich_schema()).rows(), [])

    def test_schema(self):
        self.assertEqual(self.store.schema, rich_schema())

    def test_what_is_returned_is_new(self):
        self.store["a", 1]["f"] = None
        self.store.rows()[0][2]["f"] = None
        self.store.rows().clear()
        self.store.ids("a").clear()
        self.store.members("l", 1).clear()
        self.unchanged()
        self.assertEqual(self.store.ids("a"), [1, 2, 3])

    def test_it_is_not_iterated_over(self):
        for ask in (iter, list, sorted):
            with self.assertRaises(TypeError):
                ask(self.store)

    def test_copy(self):
        twin = self.store.copy()
        self.assertIsNot(twin, self.store)
        self.assertEqual(twin, self.store)
        twin["a", 1] = row_a(f=2)
        twin["b", 3] = row_b()
        self.assertEqual(twin.members("l", 2), [1, 3])
        self.unchanged()
        self.store["a", 9] = row_a(f=1)
        self.assertEqual([twin.members("l", 1), ("a", 9) in twin], [[2], False])

    def test_equality(self):
        other = Store(rich_schema())
        self.assertFalse(other == self.store)
        other += self.store.rows()[::-1]
        self.assertTrue(other == self.store)
        self.assertFalse(other != self.store)
        other["b", 2] = row_b(w=True)
        self.assertFalse(other == self.store)
        self.assertFalse(Store(Schema(["a"], {})) == Store(Schema(["a", "b"], {})))
        self.assertTrue(Store(Schema(["a"], {})) == Store(Schema(["a"], {})))
        for value in ODD + [rich_schema(), self.store.rows(), Store]:
            self.assertFalse(self.store == value)
            self.assertTrue(self.store != value)


class Added(StoreTest):
    def test_rows_are_added_and_changed(self):
        before = self.store
        self.store += [("b", 3, row_b(i=9)), ("a", 9, row_a(f=3, g=3)), ("a", 1, row_a(f=3))]
        self.assertIs(self.store, before)
        self.assertEqual([self.store.members("l", 3), self.store.members("l", 1), len(self.store)], [[1, 9], [2], 7])

    def test_none_and_tuples(self):
        self.store += []
        self.store += ()
        self.unchanged()
        self.store += (("b", 3, row_b()),)
        self.assertEqual(self.store.ids("b"), [1, 2, 3])

    def test_targets_can_come_later(self):
        self.store += [("a", 8, row_a(p=9, q=9)), ("a", 9, row_a(p=8, q=8))]
        self.assertEqual([self.store.members("k", 8), self.store.members("n", 9)], [[9], [8]])

    def test_targets_can_be_exchanged(self):
        self.store += [("a", 1, row_a(g=2)), ("a", 3, row_a(g=1))]
        self.assertEqual([self.store.members("m", 1), self.store.members("m", 2)], [[3], [1]])

    def test_no_list(self):
        for value in [None, True, 1, "", "abc", {}, {1: 2}, b"", object(), self.store]:
            self.raises(InvalidRows, {"position": None}, add, self.store, value)
        self.unchanged()

    def test_elements_that_are_no_such_tuples(self):
        right = ("b", 3, row_b())
        wrong = ODD + [list(right), right[:2], right + (1,), ("c", 3, row_b()), (["b"], 3, row_b()), ({}, 3, row_b())]
        wrong += [("b", number, row_b()) for number in NO_IDS] + [("b", 3, value) for value in ODD]
        wrong += [("b", 3, row_a()), ("b", 3, row_b(i=0)), ("b", 3, row_b(i=True)), ("b", 3, row_b(w=1))]
        for value in wrong:
            self.raises(InvalidRows, {"position": 0}, add, self.store, [value])
            self.raises(InvalidRows, {"position": 1}, add, self.store, (right, value, None))
        self.unchanged()

    def test_wrong_elements_come_ahead_of_refused_ones(self):
        rows = [("b", 3, row_b(i=99)), ("b", 4, row_b()), ("b", 5, None)]
        self.raises(InvalidRows, {"position": 2}, add, self.store, rows)
        self.unchanged()

    def test_unknown_targets(self):
        rows = [("b", 3, row_b(i=1)), ("b", 4, row_b(i=99)), ("b", 5, row_b(i=98))]
        self.refused("b", 4, UnknownTarget, {"field": "i", "number": 99}, add, self.store, rows)

    def test_taken_targets(self):
        rows = [("a", 8, row_a(g=1)), ("a", 9, row_a(p=77))]
        self.refused("a", 8, TargetTaken, {"field": "g", "number": 1, "by": 1}, add, self.store, rows)

    def test_the_first_wrong_element_decides(self):
        rows = [("a", 8, row_a()), ("a", 9, row_a(p=77)), ("a", 7, row_a(g=1))]
        self.refused("a", 9, UnknownTarget, {"field": "p", "number": 77}, add, self.store, rows)

    def test_of_two_elements_with_one_target_the_first_is_wrong(self):
        rows = [("b", 3, row_b()), ("a", 9, row_a(g=3)), ("a", 8, row_a(g=3))]
        self.refused("a", 9, TargetTaken, {"field": "g", "number": 3, "by": 8}, add, self.store, rows)

    def test_by_is_the_least_of_several(self):
        rows = [("a", 7, row_a(g=1)), ("a", 5, row_a(g=1)), ("a", 9, row_a(g=1))]
        self.refused("a", 7, TargetTaken, {"field": "g", "number": 1, "by": 1}, add, self.store, rows)
        rows = [("a", 7, row_a(g=1)), ("a", 5, row_a(g=1)), ("a", 9, row_a(g=1)), ("a", 1, row_a())]
        self.refused("a", 7, TargetTaken, {"field": "g", "number": 1, "by": 5}, add, self.store, rows)

    def test_the_last_row_of_an_object_counts(self):
        self.store += [("b", 3, row_b(i=99)), ("b", 3, row_b(i=1))]
        self.assertEqual(self.store["b", 3], row_b(i=1))
        self.store += [("a", 9, row_a(g=1)), ("a", 9, row_a(f=1))]
        self.assertEqual(self.store.members("l", 1), [1, 2, 9])

    def test_the_last_row_of_an_object_is_looked_at_in_its_place(self):
        rows = [("a", 9, row_a(p=77)), ("a", 8, row_a(p=66)), ("a", 9, row_a(p=55))]
        self.refused("a", 8, UnknownTarget, {"field": "p", "number": 66}, add, self.store, rows)
        rows = [("b", 3, row_b()), ("a", 9, row_a(g=3)), ("a", 8, row_a(g=3)), ("a", 9, row_a(g=3))]
        self.refused("a", 8, TargetTaken, {"field": "g", "number": 3, "by": 9}, add, self.store, rows)

    def test_an_earlier_row_must_be_valid_too(self):
        self.raises(InvalidRows, {"position": 0}, add, self.store, [("b", 3, row_b(i=0)), ("b", 3, row_b())])

    def test_what_was_passed_can_be_changed_later(self):
        rows = [("b", 3, row_b())]
        self.store += rows
        rows[0][2]["w"] = True
        rows.clear()
        self.assertEqual(self.store["b", 3], row_b())


class Greatness(unittest.TestCase):
    def filled(self, many):
        store = Store(Schema(["a"], {"p": ("a", "a", "k", False)}))
        for start in range(0, many, 500):
            store += [("a", number + 1, {"p": None}) for number in range(start, min(start + 500, many))]
        return store

    def too_many(self, ask, *arguments):
        with self.assertRaises(TooMany) as caught:
            ask(*arguments)
        self.assertEqual((caught.exception.what, caught.exception.limit), ("objects", 2000))

    def test_one_more_singly(self):
        store = self.filled(1999)
        store["a", 2000] = {"p": 1}
        self.too_many(put, store, "a", 2001, {"p": None})
        self.too_many(put, store, "a", 2001, {"p": 5000})
        store["a", 2000] = {"p": 2}
        self.assertEqual((len(store), store.members("k", 2)), (2000, [2000]))

    def test_an_invalid_row_comes_ahead(self):
        with self.assertRaises(InvalidRow):
            put(self.filled(2000), "a", 2001, {"p": 0})
        with self.assertRaises(InvalidRows):
            add(self.filled(2000), [("a", 2001, {"p": None}), ("a", 2002, {"p": 0})])

    def test_one_more_by_a_list(self):
        store = self.filled(1998)
        store += [("a", 1999, {"p": None}), ("a", 1999, {"p": 1}), ("a", 1, {"p": None}), ("a", 2000, {"p": 2000})]
        self.assertEqual(len(store), 2000)
        twin = store.copy()
        self.too_many(add, store, [("a", 1, {"p": 1}), ("a", 2001, {"p": None})])
        self.too_many(add, store, [("a", 2001, {"p": 5000})])
        self.assertEqual(store, twin)

    def test_many_rows_at_once(self):
        store = Store(Schema(["a"], {"p": ("a", "a", "k", False), "q": ("a", "a", None, True)}))
        rows = [("a", number, {"p": 1, "q": 2001 - number}) for number in range(1, 2001)]
        store += rows
        self.assertEqual(store.rows(), rows)
        self.assertEqual(store.members("k", 1), list(range(1, 2001)))


if __name__ == "__main__":
    unittest.main()
