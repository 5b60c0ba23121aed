"""Sums: polynomials in sizes."""

import random
import unittest

from fetchwalks.errors import InvalidNumber, InvalidSizeName, InvalidSizes, InvalidSum
from fetchwalks.schemas import Schema
from fetchwalks.sizes import Sizes
from fetchwalks.sums import Sum
from fetchwalks.walks import Walk
from samples import ODD

NO_SUMS = [value for value in ODD if not isinstance(value, int) or isinstance(value, bool)] + [(("find", "o", 1),), Sum]

n, m, k = Sum.size("find", "o"), Sum.size("list", "orders"), Sum.size("list", "items")
N, M, K = ("find", "o"), ("list", "orders"), ("list", "items")


def one(at, power=1):
    return (at + (power,),)


class SumTest(unittest.TestCase):
    def raises(self, error, attributes, ask, *arguments):
        with self.assertRaises(error) as caught:
            ask(*arguments)
        self.assertEqual(vars(caught.exception), attributes)


class Made(SumTest):
    def test_numbers(self):
        self.assertEqual([Sum().products(), Sum(0).products(), Sum(5).products(), Sum(number=-5).products()],
                         [{}, {}, {(): 5}, {(): -5}])
        self.assertEqual(Sum(10 ** 499).products(), {(): 10 ** 499})
        for value in ODD + ["5", [5], Sum(5)]:
            if isinstance(value, int) and not isinstance(value, bool):
                continue
            self.raises(InvalidNumber, {"value": value}, Sum, value)

    def test_sizes(self):
        self.assertEqual(n.products(), {one(N): 1})
        self.assertEqual(Sum.size(label="list", name="abcdefgh").products(), {(("list", "abcdefgh", 1),): 1})
        wrong = [("finds", "o"), ("", "o"), (None, "o"), (True, "o"), (["find"], "o"), ({}, "o"), (b"find", "o"), ("list", "")]
        wrong += [("list", value) for value in ODD if value != "a"] + [("find", "O"), ("find", "abcdefghi"), ("find", None)]
        for label, name in wrong:
            self.raises(InvalidSizeName, {"value": (label, name)}, Sum.size, label, name)

    def test_by_an_object(self):
        self.assertEqual(n.size("list", "orders"), m)


class Signs(SumTest):
    def test_plus(self):
        self.assertEqual((n + m).products(), {one(N): 1, one(M): 1})
        self.assertEqual((n + n).products(), {one(N): 2})
        self.assertEqual([(n + 3).products(), (3 + n).products()], [{(): 3, one(N): 1}] * 2)
        self.assertEqual((Sum(2) + 3).products(), {(): 5})
        self.assertEqual(sum([n, m, 1]), n + m + 1)

    def test_minus(self):
        self.assertEqual((n - m).products(), {one(N): 1, one(M): -1})
        self.assertEqual((n - 3).products(), {(): -3, one(N): 1})
        self.assertEqual((3 - n).products(), {(): 3, one(N): -1})
        self.assertEqual((-(n - m * 2)).products(), {one(N): -1, one(M): 2})
        self.assertEqual((-Sum()).products(), {})

    def test_what_cancels(self):
        for value in (n - n, n + m - m - n, 0 * n, n * 0, n * Sum(), (n + 1) * (n - 1) - n ** 2 + 1, Sum(3) - 3, 3 - Sum(3)):
            self.assertEqual([value.products(), bool(value), value == Sum()], [{}, False, True])

    def test_times(self):
        self.assertEqual((n * m).products(), {one(N) + one(M): 1})
        self.assertEqual((m * n), (n * m))
        self.assertEqual([(n * -2).products(), (-2 * n).products()], [{one(N): -2}] * 2)
        self.assertEqual(((n + 1) * (n - 1)).products(), {(): -1, one(N, 2): 1})
        self.assertEqual((m * k * n * m).products(), {one(N) + one(K) + one(M, 2): 1})

    def test_products_are_sorted(self):
        value = (n + m + k + 1) ** 3
        self.assertEqual(list(value.products()), sorted(value.products()))
        self.assertTrue(all([list(product) == sorted(product) for product in value.products()]))
        value.products().clear()
        self.assertEqual(len(value.products()), 20)

    def test_powers(self):
        self.assertEqual([n ** 0, n ** 1, n ** 2, Sum() ** 0, Sum() ** 2], [Sum(1), n, n * n, Sum(1), Sum()])
        self.assertEqual((n ** 8).products(), {one(N, 8): 1})
        self.assertEqual((n - 1) ** 3, n * n * n - 3 * n * n + 3 * n - 1)
        self.assertEqual(((n ** 8) ** 8).products(), {one(N, 64): 1})
        for value in NO_SUMS + [-1, 9, 10 ** 400, n, Sum(2), "2"]:
            self.raises(InvalidSum, {"value": value}, lambda: n ** value)

    def test_values_that_are_no_sums(self):
        for value in NO_SUMS:
            for ask in (lambda: n + value, lambda: value + n, lambda: n - value, lambda: value - n, lambda: n * value,
                        lambda: value * n, lambda: n.at_most(value)):
                self.raises(InvalidSum, {"value": value}, ask)

    def test_sums_do_not_change(self):
        value = n + 1
        twin = value
        value += m
        value -= 1
        value *= 2
        self.assertEqual([twin, value, n, m], [n + 1, 2 * n + 2 * m, Sum.size(*N), Sum.size(*M)])

    def test_great_coefficients(self):
        value = (10 ** 60 * n - 7) ** 8
        self.assertEqual(value.products()[one(N, 8)], 10 ** 480)
        self.assertEqual(value({N: 3}), (3 * 10 ** 60 - 7) ** 8)


class Worth(SumTest):
    def setUp(self):
        schema = Schema(["order"], {"f": ("order", "order", "orders", False), "g": ("order", "order", "items", False)})
        self.sizes = Sizes.of(Walk(schema, [("find", "o", "order", "many", ()), ("find", "p", "order", "one", ())]),
                              ("find", "o", 3), ("list", "orders", 5))

    def test_at_sizes(self):
        self.assertEqual([(n * m + 1)(self.sizes), (n - m * k)(sizes=self.sizes), Sum(4)(self.sizes), Sum()(self.sizes)],
                         [16, -7, 4, 0])
        self.assertEqual(((n + m + k) ** 5)(self.sizes), 10 ** 5)

    def test_at_dicts(self):
        self.assertEqual((n * m + 1)({N: 2, M: 7}), 15)
        self.assertEqual((n * m + 1)({M: -7, K: 9, N: 0, ("find", "x"): 1}), 1)
        self.assertEqual((n ** 3 - m)({N: -2, M: 10 ** 400}), -8 - 10 ** 400)
        self.assertEqual(Sum(7)({}), 7)

    def test_no_sizes(self):
        wrong = [{N: True}, {N: None}, {N: "1"}, {N: 1, M: False}, {"o": 1}, {None: 1}, {("find",): 1}, {("find", "o", 1): 1},
                 {("Find", "o"): 1}, {("find", "O"): 1}, {("find", 1): 1}, {(1, 2): 3}, {N: n}, {N: [1]}]
        for value in [value for value in ODD if value != {}] + wrong + [n, [(N, 1)], Sizes]:
            self.raises(InvalidSizes, {"value": value}, n * m, value)
            self.raises(InvalidSizes, {"value": value}, Sum(1), value)

    def test_sizes_that_are_wanting(self):
        self.raises(InvalidSizeName, {"value": N}, n * m + k, {})
        self.raises(InvalidSizeName, {"value": K}, n * m + k, {N: 1})
        self.raises(InvalidSizeName, {"value": M}, n * m + k, {N: 1, K: 1})
        self.raises(InvalidSizeName, {"value": ("find", "p")}, Sum.size("list", "zz") + Sum.size("find", "p"), self.sizes)
        self.raises(InvalidSizeName, {"value": ("list", "zz")}, Sum.size("list", "zz") + n, self.sizes)
        self.assertEqual((m - m + n)({N: 1}), 1)


class Told(SumTest):
    def test_shifted(self):
        self.assertEqual(n.shifted(), {(): 1, one(N): 1})
        self.assertEqual(m.shifted(), {(): 2, one(M): 1})
        self.assertEqual((n - 1).shifted(), {one(N): 1})
        self.assertEqual((m - 2).shifted(), {one(M): 1})
        self.assertEqual((n * m - 2 * n - m + 2).shifted(), {one(N) + one(M): 1})
        self.assertEqual((m ** 2).shifted(), {(): 4, one(M): 4, one(M, 2): 1})
        self.assertEqual([Sum().shifted(), Sum(-3).shifted()], [{}, {(): -3}])
        self.assertEqual(list(((n + m + 1) ** 2).shifted()), sorted(((n + m + 1) ** 2).shifted()))

    def test_degree(self):
        values = [Sum(), Sum(7), n, n + m * k, n * n * m - k ** 2 + 5, (n + 1) ** 8]
        self.assertEqual([value.degree for value in values], [None, 0, 1, 2, 3, 8])

    def test_constant(self):
        values = [Sum(), Sum(7), Sum(-1), n, n + 1, n - n + 4, n * m]
        self.assertEqual([value.constant for value in values], [0, 7, -1, None, None, 4, None])

    def test_at_most(self):
        self.assertIs(n.at_most(n), True)
        self.assertIs(Sum(1).at_most(n), True)
        self.assertIs(Sum(2).at_most(n), False)
        self.assertIs(Sum(2).at_most(other=m), True)
        self.assertIs(Sum(3).at_most(m), False)
        self.assertIs(n.at_most(n * m), True)
        self.assertIs((2 * n).at_most(n * m), True)
        self.assertIs((3 * n).at_most(n * m), False)
        self.assertIs(n.at_most(m), False)
        self.assertIs(Sum(-1).at_most(Sum()), True)
        # This holds for all sizes, but not term by term.
        self.assertIs((2 * (n - 1)).at_most((n - 1) ** 2 + 1), False)

    def test_equality(self):
        self.assertEqual(n + 1, 1 + n)
        self.assertNotEqual(n, m)
        self.assertNotEqual(Sum.size("find", "a"), Sum.size("list", "a"))
        for value in ODD + [5, n.products()]:
            self.assertFalse(Sum(5) == value)
            self.assertTrue(n != value)
        self.assertFalse(Sum(0) == 0)

    def test_truth(self):
        self.assertEqual([bool(Sum()), bool(Sum(-1)), bool(n), bool(n - n)], [False, True, True, False])

    def test_shown(self):
        self.assertEqual(repr(Sum()), "Sum({})")
        self.assertEqual(repr(2 * n * m - 1), "Sum({(): -1, (('find', 'o', 1), ('list', 'orders', 1)): 2})")


class Chance(SumTest):
    def value(self, chance):
        total = Sum(chance.randint(-3, 3))
        for _ in range(chance.randint(0, 4)):
            part = Sum(chance.randint(-4, 4))
            for _ in range(chance.randint(0, 4)):
                part = part * chance.choice([n, m, k])
            total = total + part
        return total

    def test_signs_are_those_of_the_numbers(self):
        chance = random.Random(16)
        for _ in range(300):
            one, other = self.value(chance), self.value(chance)
            sizes = {at: chance.randint(-3, 9) for at in (N, M, K)}
            left, right, power = one(sizes), other(sizes), chance.randint(0, 3)
            wanted = [left + right, left - right, left * right, -left, left ** power, left + 5, 5 - left]
            made = [one + other, one - other, one * other, -one, one ** power, one + 5, 5 - one]
            self.assertEqual([value(sizes) for value in made], wanted)
            for value in made:
                self.assertTrue(all(value.products().values()))
                moved = {N: sizes[N] - 1, M: sizes[M] - 2, K: sizes[K] - 2}
                self.assertEqual(self.at(value.shifted(), moved), value(sizes))
            if one.at_most(other):
                sizes = {at: chance.randint(2, 9) for at in (N, M, K)}
                self.assertLessEqual(one(sizes), other(sizes))
            self.assertEqual(one.at_most(other), all([worth >= 0 for worth in (other - one).shifted().values()]))

    def at(self, products, sizes):
        total = 0
        for product, worth in products.items():
            for label, name, power in product:
                worth *= sizes[label, name] ** power
            total += worth
        return total


if __name__ == "__main__":
    unittest.main()
