"""Words of routes: routes, places, what links lead to, reductions."""

import itertools
import unittest

from fetchwalks.errors import InvalidPlace, InvalidRoute, InvalidText, NoWalk, TooMany, UnknownLink
from fetchwalks.schemas import Schema
from fetchwalks.walks import Walk
from fetchwalks.words import is_place, is_route, kind_at, leads, read_route, reductions, route_text
from samples import ODD, rich_schema, shop_schema

NO_ROUTES = ODD + [["o"], ["o", "buyer"], "o", "o.buyer", ("x",), ("O",), ("buyer",), ("o", None), ("o", ["buyer"]),
                   ("o", ("buyer",)), ("o", b"buyer"), ("o", {}), (("o",),), ("o", ""), ("o", "orders"),
                   ("o", "buyer", "place"), ("o", "buyer", "buyer"), ("o", "buyer", "orders", "orders"), ("o", "o"),
                   ("c", "buyer"), (None, "buyer"), ("o", True), ("o", 1), (["o"], "buyer")]


def shop_walk():
    return Walk(shop_schema(), [("find", "o", "order", "many", ()), ("find", "c", "customer", "one", ())])


def rich_walk():
    return Walk(rich_schema(), [("find", "x", "a", "many", ()), ("find", "f", "b", "many", ())])


def wide_schema():
    return Schema(["a", "b"], {f"f{letter}": ("a", "b", f"l{letter}", False) for letter in "abcdefghijkl"})


class WordTest(unittest.TestCase):
    def raises(self, error, attributes, ask, *arguments):
        with self.assertRaises(error) as caught:
            ask(*arguments)
        self.assertEqual(vars(caught.exception), attributes)


class Routes(WordTest):
    def test_routes(self):
        for route in [("o",), ("c",), ("o", "buyer"), ("o", "buyer", "orders"), ("o", "buyer", "orders", "place"),
                      ("o", "buyer", "orders", "buyer"), ("c", "orders"), ("c", "orders", "buyer", "orders")]:
            self.assertIs(is_route(shop_walk(), route), True)
        self.assertIs(is_route(walk=shop_walk(), value=("o",)), True)

    def test_no_routes(self):
        for value in NO_ROUTES + [shop_walk(), shop_schema()]:
            self.assertIs(is_route(shop_walk(), value), False)
            self.assertIs(is_place(shop_walk(), value), False)
            self.raises(InvalidRoute, {"value": value}, kind_at, shop_walk(), value)
            self.raises(InvalidRoute, {"value": value}, reductions, shop_walk(), value)
            self.raises(InvalidPlace, {"value": value}, leads, shop_walk(), value, "nothing")

    def test_no_walk(self):
        for value in ODD + [shop_schema(), Walk]:
            for ask in (is_route, is_place, kind_at, read_route, reductions):
                self.raises(NoWalk, {"value": value}, ask, value, None)
            self.raises(NoWalk, {"value": value}, leads, value, None, None)

    def test_a_find_with_the_name_of_a_link(self):
        walk = rich_walk()
        self.assertTrue(is_place(walk, ("f", "l")))
        self.assertEqual(leads(walk, ("f",), "l"), [("f", "l")])
        self.assertEqual(kind_at(walk, ("f", "l")), "a")

    def test_places(self):
        for place in [("o",), ("c",), ("o", "buyer"), ("o", "buyer", "orders"), ("o", "buyer", "orders", "place")]:
            self.assertIs(is_place(shop_walk(), place), True)
        self.assertIs(is_place(walk=shop_walk(), value=("c", "orders", "place")), True)
        for value in [("o", "buyer", "orders", "buyer"), ("c", "orders", "buyer"), ("c", "orders", "buyer", "orders")]:
            self.assertIs(is_route(shop_walk(), value), True)
            self.assertIs(is_place(shop_walk(), value), False)

    def test_what_turns_back_is_no_place(self):
        wanted = {("f", "l"): True, ("g", "m"): False, ("p", "k"): True, ("q", "n"): False, ("k", "p"): False,
                  ("n", "q"): False, ("p", "p"): True, ("k", "k"): True, ("q", "q"): True, ("n", "n"): True,
                  ("g", "l"): True, ("f", "m"): True, ("h", "l"): True}
        for links in wanted:
            self.assertIs(is_place(rich_walk(), ("x",) + links), wanted[links])
            self.assertIs(is_route(rich_walk(), ("x",) + links), True)
        self.assertFalse(is_place(rich_walk(), ("f", "l", "f")))
        self.assertFalse(is_place(rich_walk(), ("x", "p", "f", "m", "g")))

    def test_kinds(self):
        kinds = [kind_at(shop_walk(), route) for route in [("o",), ("c",), ("o", "buyer"), ("o", "buyer", "orders", "place")]]
        self.assertEqual(kinds, ["order", "customer", "customer", "shop"])
        self.assertEqual(kind_at(walk=shop_walk(), route=("c", "orders", "buyer")), "customer")


class Texts(WordTest):
    def test_there_and_back(self):
        for route, text in [(("o",), "o"), (("o", "buyer", "orders"), "o.buyer.orders"), (("c", "orders", "buyer"), "c.orders.buyer")]:
            self.assertEqual(route_text(route), text)
            self.assertEqual(read_route(shop_walk(), text), route)
        self.assertEqual(route_text(route=("x", "yy")), "x.yy")
        self.assertEqual(read_route(walk=shop_walk(), text="c"), ("c",))

    def test_no_texts(self):
        values = ODD + [("o",), ["o"], "o.", ".o", "o..buyer", "o.buyer.", "o buyer", "o.orders", " o", "o\n", "O", "x",
                        "o.buyer.place", b"o", "o.buyer\n", "buyer", "."]
        for value in values:
            self.raises(InvalidText, {"line": 1}, read_route, shop_walk(), value)


class Leads(WordTest):
    def test_a_field_behind_its_own_list(self):
        self.assertEqual(leads(shop_walk(), ("c", "orders"), "buyer"), [("c",)])
        self.assertEqual(leads(rich_walk(), ("x", "g", "l", "k"), "p"), [("x", "g", "l")])
        self.assertEqual(leads(rich_walk(), ("x", "n"), "q"), [("x",)])

    def test_a_list_behind_its_own_field(self):
        self.assertEqual(leads(shop_walk(), ("o", "buyer"), "orders"), [("o",), ("o", "buyer", "orders")])
        self.assertEqual(leads(rich_walk(), ("x", "p"), "k"), [("x",), ("x", "p", "k")])

    def test_a_list_behind_its_own_single_field(self):
        self.assertEqual(leads(rich_walk(), ("x", "g"), "m"), [("x",)])
        self.assertEqual(leads(rich_walk(), ("x", "q"), "n"), [("x",)])

    def test_any_other_link(self):
        self.assertEqual(leads(shop_walk(), ("o",), "buyer"), [("o", "buyer")])
        self.assertEqual(leads(shop_walk(), ("c",), "orders"), [("c", "orders")])
        self.assertEqual(leads(rich_walk(), ("x", "g"), "l"), [("x", "g", "l")])
        self.assertEqual(leads(rich_walk(), ("x", "f", "l"), "p"), [("x", "f", "l", "p")])
        self.assertEqual(leads(rich_walk(), ("x", "k"), "k"), [("x", "k", "k")])
        self.assertEqual(leads(walk=rich_walk(), place=("x", "p"), link="p"), [("x", "p", "p")])

    def test_errors_in_their_sequence(self):
        for value in ODD + ["place", "buyer", "order", ["orders"]]:
            self.raises(UnknownLink, {"value": value}, leads, shop_walk(), ("o", "buyer"), value)
        self.raises(InvalidPlace, {"value": ("c", "orders", "buyer")}, leads, shop_walk(), ("c", "orders", "buyer"), "orders")
        self.raises(InvalidPlace, {"value": None}, leads, shop_walk(), None, None)


class Reductions(WordTest):
    def test_routes_that_turn_back(self):
        walk = shop_walk()
        self.assertEqual(reductions(walk, ("o", "buyer")), [("o", "buyer")])
        self.assertEqual(reductions(walk, ("o", "buyer", "orders")), [("o",), ("o", "buyer", "orders")])
        self.assertEqual(reductions(walk, ("o", "buyer", "orders", "buyer")), [("o", "buyer")])
        self.assertEqual(reductions(walk, ("o", "buyer", "orders", "place")),
                         [("o", "buyer", "orders", "place"), ("o", "place")])
        self.assertEqual(reductions(walk=walk, route=("c", "orders", "buyer", "orders")), [("c", "orders")])
        self.assertEqual(reductions(rich_walk(), ("x", "g", "m", "p")), [("x", "p")])

    def test_each_once_and_sorted(self):
        route = ("x", "f", "l", "p", "k")
        self.assertEqual(reductions(rich_walk(), route), [
            ("x",), ("x", "f", "l"), ("x", "f", "l", "p", "k"), ("x", "p", "k")])
        # Two ways lead to the same place, behind the field that leads back.
        self.assertEqual(reductions(rich_walk(), ("x", "p", "k", "p", "k", "p")), [("x", "p")])

    def test_turns_within_turns(self):
        route = ("x", "p", "f", "l", "k")
        self.assertEqual(reductions(rich_walk(), route), [
            ("x",), ("x", "p", "f", "l", "k"), ("x", "p", "k")])

    def test_too_many(self):
        walk = Walk(wide_schema(), [("find", "x", "a", "many", ())])
        route = ("x",) + tuple(itertools.chain.from_iterable((f"f{letter}", f"l{letter}") for letter in "abcdefghij"))
        self.assertEqual(len(reductions(walk, route)), 1024)
        self.assertEqual(len(reductions(walk, route + ("fk", "la"))), 1024)
        self.raises(TooMany, {"what": "places", "limit": 2000}, reductions, walk, route + ("fk", "lk"))
        # Behind a link in between there are more.
        self.raises(TooMany, {"what": "places", "limit": 2000}, reductions, walk, route + ("fk", "lk", "fk", "la"))

    def test_just_passed_and_just_not(self):
        # Behind n fields and n of their lists there are n + 1 places: so many steps can have been taken back.
        schema = Schema(["a"], {f"p{letter}": ("a", "a", f"k{letter}", False) for letter in "abcdefg"})
        walk = Walk(schema, [("find", "x", "a", "one", ())])

        def route(*numbers):
            links = [(f"p{letter}",) * many + (f"k{letter}",) * many for letter, many in zip("abcdefg", numbers)]
            return ("x",) + tuple(itertools.chain.from_iterable(links))

        self.assertEqual(len(reductions(walk, route(4, 4, 4))), 125)
        self.assertEqual(len(reductions(walk, route(4, 4, 4, 1, 1, 1, 1))), 2000)
        self.assertEqual(len(reductions(walk, route(2, 22, 27))), 3 * 23 * 28)
        self.raises(TooMany, {"what": "places", "limit": 2000}, reductions, walk, route(2, 22, 28))

    def test_long_routes(self):
        walk = rich_walk()
        self.assertEqual(reductions(walk, ("x",) + ("p",) * 499), [("x",) + ("p",) * 499])
        self.assertEqual(reductions(walk, ("x",) + ("g", "m") * 249), [("x",)])
        self.assertEqual(len(reductions(walk, ("x",) + ("p",) * 200 + ("k",) * 200)), 201)


if __name__ == "__main__":
    unittest.main()
