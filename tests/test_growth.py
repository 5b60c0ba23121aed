"""Growth of positive sums, and the papers that show which one grows no faster."""

import itertools
import random
import unittest
from fractions import Fraction

from fetchwalks.errors import InvalidSum, TooMany
from fetchwalks.growth import are_shares, direction, grows_no_faster, is_direction, leading, shares
from fetchwalks.numbers import most
from fetchwalks.plans import Plan
from fetchwalks.sums import Sum
from fetchwalks.walks import Walk
from samples import ODD, shop_schema

n, m, k = Sum.size("find", "o"), Sum.size("list", "orders"), Sum.size("list", "k")
N, M, K = ("find", "o"), ("list", "orders"), ("list", "k")
SIZES = [Sum.size("find", name) for name in "abc"] + [Sum.size("list", name) for name in "abcd"]


def product(**powers):
    """The product of powers of n, m and k."""
    names = {"n": N, "m": M, "k": K}
    return tuple(sorted([names[letter] + (power,) for letter, power in powers.items()]))


def raised(powers, sizes=SIZES):
    total = Sum(1)
    for size, power in zip(sizes, powers):
        for _ in range(power):
            total = total * size
    return total


def chance_sum(chance, many, sizes, highest):
    total = Sum()
    for _ in range(many):
        total = total + chance.randint(1, 5) * raised([chance.choice([0, 0, 1, chance.randint(0, highest)]) for _ in range(sizes)])
    return total


# Values that are no positive sums.
NO_SUMS = ODD + [Sum(), Sum(-1), n - 2, n - m, -n, n * m - n * n, "n", 5, {(): 1}, Sum, [n], (n,)]


class GrowthTest(unittest.TestCase):
    def raises(self, error, attributes, ask, *arguments):
        with self.assertRaises(error) as caught:
            ask(*arguments)
        self.assertEqual(vars(caught.exception), attributes)

    def check(self, one, other, wanted):
        self.assertIs(grows_no_faster(one, other), wanted)
        found, parted = shares(one, other), direction(one, other)
        self.assertEqual([found is not None, parted is None], [wanted, wanted])
        if wanted:
            self.check_shares(one, other, found)
        else:
            self.check_direction(one, other, parted)

    def check_shares(self, one, other, found):
        self.assertTrue(are_shares(one, other, found))
        self.assertEqual(list(found), leading(one))
        for lead, rows in found.items():
            self.assertIs(type(rows), list)
            powers, total = {}, Fraction(0)
            for row in rows:
                self.assertIs(type(row), tuple)
                behind, top, bottom = row
                self.assertIn(behind, leading(other))
                self.assertTrue(type(top) is type(bottom) is int and top >= 0 and bottom > 0)
                total += Fraction(top, bottom)
                for label, name, power in behind:
                    powers[label, name] = powers.get((label, name), 0) + power * Fraction(top, bottom)
            self.assertEqual(total, 1)
            for label, name, power in lead:
                self.assertGreaterEqual(powers.get((label, name), 0), power)

    def check_direction(self, one, other, found):
        self.assertTrue(is_direction(one, other, found))
        self.assertIs(type(found), tuple)
        lead, counts = found
        self.assertIn(lead, leading(one))
        names = {part[:2] for row in leading(one) + leading(other) for part in row}
        self.assertEqual(list(counts), sorted(names))
        self.assertTrue(all([type(count) is int and count >= 0 for count in counts.values()]))

        def reach(row):
            return sum([power * counts[label, name] for label, name, power in row])

        self.assertTrue(all([reach(lead) > reach(row) for row in leading(other)]))


class Leading(GrowthTest):
    def test_numbers(self):
        self.assertEqual(leading(Sum(7)), [()])
        self.assertEqual(leading(total=n), [product(n=1)])

    def test_multiples(self):
        self.assertEqual(leading(1 + n + m), [product(n=1), product(m=1)])
        self.assertEqual(leading(1 + 2 * n + n * m), [product(n=1, m=1)])
        self.assertEqual(leading(n ** 2 + n * m + m + 5 * m ** 3 + k),
                         sorted([product(n=2), product(n=1, m=1), product(m=3), product(k=1)]))
        self.assertEqual(leading(n ** 8 * m + n ** 8 + m), [product(n=8, m=1)])

    def test_terms_below_0(self):
        # n m - n is n (m - 2) + n; all leading products have coefficients above 0.
        for total, wanted in ((n * m - n, [product(n=1, m=1)]), (n - 1 + m, [product(n=1), product(m=1)]),
                              (n * (m - 1) * (k - 1), [product(n=1, m=1, k=1)]),
                              (m * m - 2 * m + n, [product(m=2), product(n=1)]), ((m - 2) ** 3 + 1, [product(m=3)]),
                              (n * (m - 2) * (k - 2), [product(n=1, m=1, k=1)])):
            self.assertEqual(leading(total), sorted(wanted))

    def test_no_positive_sums(self):
        for value in NO_SUMS + [m - 3, n - 1 - (n - 1), n * m - 3 * n, (m - 2) * (k - 3), n * n - 3 * n + 2 + m - m * n]:
            self.raises(InvalidSum, {"value": value}, leading, value)

    def test_just_positive(self):
        self.assertEqual(leading(m - 2), [product(m=1)])
        self.assertEqual(leading(n - 1), [product(n=1)])
        self.raises(InvalidSum, {"value": n - 2}, leading, n - 2)
        self.raises(InvalidSum, {"value": m - 3}, leading, m - 3)
        # For all sizes above 0, but not term by term.
        self.raises(InvalidSum, {"value": n * n - 3 * n + 10}, leading, n * n - 3 * n + 10)

    def test_counts_of_walks(self):
        deep = ("go", "o", "buyer", "c", (("for", "c", "orders", "p", (("go", "p", "place", "s", ()),)),))
        walk = Walk(shop_schema(), [("find", "o", "order", "many", (deep,))])
        late = most(walk, Plan(shop_schema()))
        self.assertEqual(leading(late), [product(n=1, m=1)])
        early = most(walk, Plan.of(shop_schema(), place="along"))
        self.check(early, late, True)
        self.check(late, early, False)

    def test_many_products(self):
        total = Sum(1)
        for size in SIZES[:6]:
            total = total + size
        told = leading(total ** 5)
        self.assertEqual(len(told), 252)
        self.assertEqual(told, sorted(told))
        self.assertTrue(all([sum([power for _, _, power in row]) == 5 for row in told]))

    def test_what_was_told_can_be_changed(self):
        total = n + m
        leading(total).clear()
        self.assertEqual(leading(total), [product(n=1), product(m=1)])
        told = shares(total, total)
        told[product(n=1)].clear()
        del told[product(m=1)]
        self.check(total, total, True)
        direction(n * m, total)[1].clear()
        self.check(n * m, total, False)
        self.assertEqual(total, n + m)

    def test_by_chance(self):
        chance = random.Random(71)
        for _ in range(300):
            total = chance_sum(chance, chance.randint(1, 9), 4, 4)
            products = list(total.products())
            powers = {row: {part[:2]: part[2] for part in row} for row in products}
            wanted = [one for one in products if not any([
                other != one and all([powers[other].get(part[:2], 0) >= part[2] for part in one]) for other in products])]
            self.assertEqual(leading(total), wanted)


class Growing(GrowthTest):
    def test_of_the_document(self):
        self.check(n * m, n * n + m ** 2, True)
        self.check(n * m, n + m, False)

    def test_numbers(self):
        self.check(Sum(9), Sum(1), True)
        self.check(Sum(9), n, True)
        self.check(n, Sum(10 ** 400), False)
        self.assertEqual(shares(Sum(9), Sum(1)), {(): [((), 1, 1)]})
        self.assertEqual(direction(n, Sum(5)), (product(n=1), {N: 1}))

    def test_numbers_times(self):
        self.check(10 ** 300 * n, n, True)
        self.check(5 * n * m + 3 * n + 7, n * m - n, True)
        self.check(n * m, (n - 1) * (m - 2), True)

    def test_single_sizes(self):
        self.check(n ** 3, n ** 4, True)
        self.check(n ** 4, n ** 3 + 10 ** 9, False)
        self.check(n, m, False)

    def test_means(self):
        self.check(n * m, n ** 3 + m, False)
        self.check(n * m, n ** 3 + m ** 2, True)
        self.check(n ** 2 * m, n ** 3 + m ** 3, True)
        self.check(n * m * k, n ** 3 + m ** 3 + k ** 3, True)
        self.check(n * m * k, n ** 3 + m ** 3 + k ** 2, False)
        self.check(n * m * k, n ** 4 + m ** 3 + k ** 2 * m, True)
        self.check(n ** 2 + n * m + m ** 2, n ** 2 + m ** 2, True)
        self.check(n ** 2 + n * m + k, n ** 2 + m ** 2, False)
        self.assertEqual(shares(n * m, n ** 2 + m ** 2), {product(n=1, m=1): [(product(n=2), 1, 2), (product(m=2), 1, 2)]})
        told = shares(n ** 2 * m, n ** 3 + m ** 3)
        self.assertEqual(told, {product(n=2, m=1): [(product(n=3), 2, 3), (product(m=3), 1, 3)]})

    def test_by_name(self):
        self.assertIs(grows_no_faster(other=n * m, one=n), True)
        found, parted = shares(other=n * m, one=n), direction(other=n, one=n * m)
        self.assertIs(are_shares(other=n * m, one=n, value=found), True)
        self.assertIs(is_direction(other=n, one=n * m, value=parted), True)

    def test_great_powers(self):
        one, other = Sum(1), Sum(1)
        for _ in range(40):
            one, other = one * n ** 8 * m ** 8, other * n ** 8 * n ** 8
        self.check(one, other + m ** 4, False)
        far = Sum(1)
        for _ in range(80):
            far = far * m ** 8
        self.check(one, other + far, True)
        self.check(one * m, other + far, False)

    def test_by_chance(self):
        chance = random.Random(72)
        told = {True: 0, False: 0}
        for number in range(1500):
            sizes = chance.randint(1, 6)
            one = chance_sum(chance, chance.randint(1, 5), sizes, 4)
            other = chance_sum(chance, chance.randint(1, 9), sizes, 5)
            if len(leading(other)) > 12:
                continue
            wanted = grows_no_faster(one, other)
            told[wanted] += 1
            self.check(one, other, wanted)
            self.check(one, one + other, True)
            if wanted and number % 5 == 0:
                self.check_at_sizes(one, other)
        self.assertGreater(min(told.values()), 300)

    def check_at_sizes(self, one, other):
        """A number times the other sum is at least the first one, for some sizes."""
        times = 10 * sum(abs(worth) for worth in one.products().values())
        for number in itertools.product((4, 50, 10 ** 6), repeat=3):
            sizes = {("find", name): number[0] for name in "abc"}
            sizes.update({("list", name): number[1 + (name in "ab")] for name in "abcd"})
            self.assertGreaterEqual(times * other(sizes), one(sizes))

    def test_twelve_products_in_six_sizes(self):
        chance = random.Random(73)
        seen = {True: 0, False: 0}
        for _ in range(40):
            totals = []
            for high in (chance.randint(6, 9), chance.randint(6, 12)):
                rows = set()
                while len(rows) < 12:
                    row = [0] * 6
                    for _ in range(high):
                        row[chance.randrange(6)] += 1
                    rows.add(tuple(row))
                totals.append(sum([raised(row) for row in rows], Sum()))
            one, other = totals
            self.assertEqual([len(leading(one)), len(leading(other))], [12, 12])
            wanted = grows_no_faster(one, other)
            seen[wanted] += 1
            self.check(one, other, wanted)
            inner = sum([raised([power // 2 for power in dict_powers(row)]) for row in leading(other)], Sum())
            self.check(inner, other, True)
        self.assertGreater(seen[False], 10)


def dict_powers(row):
    powers = {part[:2]: part[2] for part in row}
    names = [("find", name) for name in "abc"] + [("list", name) for name in "abcd"]
    return [powers.get(name, 0) for name in names]


class Papers(GrowthTest):
    def test_right_shares(self):
        one, other = n * m + k, n ** 2 + m ** 2 + k ** 2
        right = {product(n=1, m=1): [(product(n=2), 1, 2), (product(m=2), 1, 2)], product(k=1): [(product(k=2), 1, 1)]}
        others = [right, {lead: tuple(rows) for lead, rows in right.items()}, dict(reversed(right.items()))]
        # Shares of nothing, of the same product twice, and fractions that are not in their lowest terms.
        others += [{**right, product(k=1): rows} for rows in (
            [(product(k=2), 1, 2), (product(n=2), 1, 2)], [(product(k=2), 1, 1), (product(n=2), 0, 5)],
            [(product(k=2), 1, 3), (product(k=2), 4, 6)], [(product(k=2), 10 ** 300, 2 * 10 ** 300), (product(m=2), 1, 2)])]
        for value in others:
            self.assertIs(are_shares(one, other, value), True)

    def test_spoilt_shares(self):
        one, other = n * m + k, n ** 2 + m ** 2 + k ** 2
        halves, whole = [(product(n=2), 1, 2), (product(m=2), 1, 2)], [(product(k=2), 1, 1)]
        right = {product(n=1, m=1): halves, product(k=1): whole}
        self.assertTrue(are_shares(one, other, right))
        spoilt = ODD + [{}, {product(n=1, m=1): halves}, {product(k=1): whole}, {**right, product(n=1): whole}, list(right.items())]
        spoilt += [{product(n=1, m=1): halves, value: whole} for value in (product(k=2), "k", 1, None, (("list", "k", True),),
                (("list", "k"),), ((1, "k", 1),))]
        rows = [[], halves[:1], whole, halves + whole, halves + [(product(k=2), 1, 10 ** 9)], [list(row) for row in halves], None, 1,
                [(product(n=2), 2, 3), (product(m=2), 1, 3)], [(product(n=2), 1, 2), (product(m=2), 2, 4), (product(k=2), 1, 4)],
                dict(enumerate(halves)),
                [(product(n=2), 1, 2), (product(n=1, m=1), 1, 2)], [(product(n=2), -1, 2), (product(m=2), 3, 2)],
                [(product(n=2), 1, -2), (product(m=2), 3, 2)],
                [(product(n=2), 1, 2), (product(m=2), 1, 0)], [(product(n=2), True, 2), (product(m=2), 1, 2)],
                [(product(n=2), 1, 2), (product(m=2), 1)],
                [(product(n=2), 1, 2), (product(m=2), 1, 2, 1)], [(list(product(n=2)), 1, 2), halves[1]], [(([*N, 2],), 1, 2), halves[1]],
                [None, halves[1]], [(None, 1, 2), halves[1]], [("x", 1, 2), halves[1]], "ab"]
        spoilt += [{**right, product(n=1, m=1): value} for value in rows]
        for value in spoilt:
            self.assertIs(are_shares(one, other, value), False)
        # True is no power.
        self.assertIs(are_shares(n, n, {(("find", "o", True),): [(product(n=1), 1, 1)]}), False)
        self.assertIs(are_shares(n, n, {product(n=1): [((("find", "o", True),), 1, 1)]}), False)
        self.assertIs(are_shares(n, n, {product(n=1): [(product(n=1), True, 1)]}), False)
        self.assertIs(are_shares(n, n, {product(n=1): [(product(n=1), 1, True)]}), False)
        # There are none.
        for value in ({product(n=1): []}, {product(n=1): [(product(m=1), 1, 1)]}):
            self.assertIs(are_shares(n, m, value), False)

    def test_right_directions(self):
        one, other = n * m + k, n ** 2 + k
        for counts in ({N: 0, M: 1, K: 0}, {M: 10 ** 300, K: 1, N: 5}, {K: 0, M: 2, N: 1}):
            self.assertIs(is_direction(one, other, (product(n=1, m=1), counts)), True)

    def test_spoilt_directions(self):
        one, other, lead = n * m + k, n ** 2 + k, product(n=1, m=1)
        right = {N: 0, M: 1, K: 0}
        self.assertTrue(is_direction(one, other, (lead, right)))
        spoilt = ODD + [right, [lead, right], (lead,), (lead, right, 1), (lead, {}), (lead, {N: 0, M: 1}), (lead, {M: 1}),
                        (product(k=1), right)]
        spoilt += [(lead, {**right, ("list", "x"): 0}), (lead, {**right, N: 1}), (lead, {**right, N: -1}), (lead, {**right, M: True}),
                   (lead, {**right, K: False})]
        spoilt += [(lead, {**right, M: None}), (lead, {**right, K: 1}), (lead, list(right.items())), (lead, {N: 0, M: 1, "k": 0}),
                   (lead, None), (lead, 1)]
        spoilt += [(value, right) for value in ODD + [list(lead), (list(N) + [1], M + (1,)), product(n=2), product(m=1),
                                                      (N + (True,), M + (1,)), (N, M), lead * 2]]
        for value in spoilt:
            self.assertIs(is_direction(one, other, value), False)
        # There is none.
        self.assertIs(is_direction(n, n * m, (product(n=1), {N: 1, M: 0})), False)
        self.assertIs(is_direction(Sum(2), Sum(1), ((), {})), False)

    def test_spoilt_by_chance(self):
        chance = random.Random(74)
        for _ in range(300):
            one, other = chance_sum(chance, 3, 3, 3), chance_sum(chance, 4, 3, 3)
            found = shares(one, other)
            if found is None:
                lead, counts = direction(one, other)
                name = chance.choice(sorted(counts))
                self.assertFalse(is_direction(one, other, (lead, {**counts, name: -1})))
                self.assertFalse(is_direction(other + one, one + other, (lead, counts)))
                continue
            lead = chance.choice(sorted(found))
            for rows in (found[lead][1:], found[lead] + found[lead][:1]):
                self.assertFalse(are_shares(one, other, {**found, lead: rows}))
            row = chance.randrange(len(found[lead]))
            for top, bottom in ((1, 0), (0, 1), (-1, 0)):
                changed = list(found[lead])
                changed[row] = (changed[row][0], changed[row][1] + top, changed[row][2] + bottom)
                self.assertFalse(are_shares(one, other, {**found, lead: changed}))


class Errors(GrowthTest):
    def asks(self):
        return [grows_no_faster, shares, direction, lambda one, other: are_shares(one, other, None),
                lambda one, other: is_direction(one, other, None)]

    def test_no_sums(self):
        for ask in self.asks():
            for value in NO_SUMS:
                self.raises(InvalidSum, {"value": value}, ask, value, value)
                self.raises(InvalidSum, {"value": value}, ask, n, value)
        many = sum([n ** (7 - at) * m ** at for at in range(8)], Sum()) + sum([n ** (7 - at) * k ** at for at in range(1, 8)], Sum())
        self.assertEqual(len(leading(many)), 15)
        for ask in self.asks():
            self.raises(InvalidSum, {"value": 1}, ask, many, 1)
            self.raises(InvalidSum, {"value": None}, ask, None, many)

    def test_too_many(self):
        rows = [n ** (7 - at) * m ** at for at in range(8)] + [n ** (7 - at) * k ** at for at in range(1, 6)]
        twelve, thirteen = sum(rows[:12], Sum()), sum(rows, Sum())
        self.assertEqual([len(leading(twelve)), len(leading(thirteen))], [12, 13])
        six, one_more = sum(SIZES[:6], Sum()), SIZES[6]
        for ask in self.asks():
            ask(twelve, twelve)
            for one, other in ((thirteen, n), (n, thirteen), (thirteen, six + one_more), (six + one_more, thirteen)):
                self.raises(TooMany, {"what": "products", "limit": 12}, ask, one, other)
            ask(six, six)
            ask(six, six + 1)
            for one, other in ((six, one_more), (one_more, six), (six + one_more, Sum(1))):
                self.raises(TooMany, {"what": "sizes", "limit": 6}, ask, one, other)
            # Only leading products count.
            ask(six * SIZES[0] + SIZES[1], six)
        # A size that stands in no leading product still has a leading multiple.
        self.assertEqual(leading(twelve + n * m), leading(twelve))


if __name__ == "__main__":
    unittest.main()
