"""Growth: which of two positive sums grows no faster than the other one, and papers that show it."""

from math import gcd, lcm

from fetchwalks.checks import is_count, is_integer, is_sequence
from fetchwalks.contests import Contest
from fetchwalks.errors import InvalidSum, TooMany
from fetchwalks.sums import Sum

MOST_PRODUCTS = 12
MOST_SIZES = 6


class Pair:
    """The leading products of two sums, and the powers of all their sizes in each of them."""

    def __init__(self, one, other):
        check_positive(one)
        check_positive(other)
        self.leads = one.leading_products
        self.other_leads = other.leading_products
        if len(self.leads) > MOST_PRODUCTS or len(self.other_leads) > MOST_PRODUCTS:
            raise TooMany("products", MOST_PRODUCTS)
        products = self.leads + self.other_leads
        self.size_list = sorted(set([(label, name) for product in products for label, name, _ in product]))
        if len(self.size_list) > MOST_SIZES:
            raise TooMany("sizes", MOST_SIZES)
        self.powers = {product: self._powers_in(product) for product in products}

    def contest(self, product):
        """Between a leading product of one and means of those of the other one."""
        return Contest(self.powers[product], [self.powers[lead] for lead in self.other_leads])

    def _powers_in(self, product):
        powers = {(label, name): power for label, name, power in product}
        return [powers.get(at, 0) for at in self.size_list]


def leading(total):
    check_positive(total)
    return list(total.leading_products)


def grows_no_faster(one, other):
    pair = Pair(one, other)
    for product in pair.leads:
        if pair.contest(product).tops is None:
            return False
    return True


def shares(one, other):
    pair = Pair(one, other)
    table = {}
    for product in pair.leads:
        tops = pair.contest(product).tops
        if tops is None:
            return None
        table[product] = shares_by(pair.other_leads, tops)
    return table


def shares_by(products, tops):
    """The shares of products that stand to each other like these COUNTS."""
    bottom = sum(tops)
    rows = []
    for product, top in zip(products, tops):
        if top > 0:
            rows.append((product, top // gcd(top, bottom), bottom // gcd(top, bottom)))
    return rows


def are_shares(one, other, value):
    pair = Pair(one, other)
    if not isinstance(value, dict) or len(value) != len(pair.leads):
        return False
    return all([is_product_of(pair.leads, product) and are_right_shares(pair, product, value[product])
                for product in value])


def are_right_shares(pair, product, rows):
    """Whether the value is a list of shares that make a mean which is at least the product."""
    if not is_sequence(rows) or not all([is_share(pair.other_leads, row) for row in rows]):
        return False
    bottom = 1
    for _, _, under in rows:
        bottom = lcm(bottom, under)
    tops = [(lead, top * (bottom // under)) for lead, top, under in rows]
    if sum([top for _, top in tops]) != bottom:
        return False
    for at, power in enumerate(pair.powers[product]):
        if sum([top * pair.powers[lead][at] for lead, top in tops]) < power * bottom:
            return False
    return True


def is_share(leads, value):
    if not isinstance(value, tuple) or len(value) != 3:
        return False
    lead, top, bottom = value
    return is_product_of(leads, lead) and is_count(top) and is_count(bottom) and bottom > 0


def is_product_of(products, value):
    """Whether any value is one of the products; True is no power of 1."""
    if not isinstance(value, tuple):
        return False
    for part in value:
        if not isinstance(part, tuple) or len(part) != 3:
            return False
        label, name, power = part
        if not isinstance(label, str) or not isinstance(name, str) or not is_integer(power):
            return False
    return value in products


def direction(one, other):
    pair = Pair(one, other)
    for product in pair.leads:
        counts = pair.contest(product).counts
        if counts is not None:
            divisor = 0
            for entry in counts:
                divisor = gcd(divisor, entry)
            return (product, {at: count // divisor for at, count in zip(pair.size_list, counts)})
    return None


def is_direction(one, other, value):
    pair = Pair(one, other)
    if not isinstance(value, tuple) or len(value) != 2:
        return False
    product, counts = value
    if not is_product_of(pair.leads, product) or not isinstance(counts, dict) or len(counts) != len(pair.size_list):
        return False
    for at in pair.size_list:
        if at not in counts or not is_count(counts[at]):
            return False
    reached = reach_of(pair, product, counts)
    return all([reached > reach_of(pair, lead, counts) for lead in pair.other_leads])


def reach_of(pair, product, counts):
    """The powers of a product times these counts, added up."""
    return sum([power * counts[at] for at, power in zip(pair.size_list, pair.powers[product])])


def check_positive(total):
    if not isinstance(total, Sum) or not total.is_positive:
        raise InvalidSum(total)
