"""Sums: polynomials in sizes with integers as coefficients.

They are kept as dicts from products, sorted tuples of (label, name, power), to coefficients that are not 0.
"""

from math import comb

from fetchwalks.checks import is_count, is_integer, is_name
from fetchwalks.errors import InvalidNumber, InvalidSizeName, InvalidSizes, InvalidSum
from fetchwalks.sizes import LEAST, Sizes

MOST_POWER = 8


class Sum:
    def __init__(self, number=0):
        if not is_integer(number):
            raise InvalidNumber(number)
        self._terms = number_terms(number)
        self._positive = None
        self._leads = None

    @staticmethod
    def size(label, name):
        if not is_size_name((label, name)):
            raise InvalidSizeName((label, name))
        return sum_of({((label, name, 1),): 1})

    def __add__(self, other):
        return sum_of(added(self._terms, terms_of(other), 1))

    def __radd__(self, other):
        return sum_of(added(terms_of(other), self._terms, 1))

    def __sub__(self, other):
        return sum_of(added(self._terms, terms_of(other), -1))

    def __rsub__(self, other):
        return sum_of(added(terms_of(other), self._terms, -1))

    def __mul__(self, other):
        return sum_of(multiplied(self._terms, terms_of(other)))

    def __rmul__(self, other):
        return sum_of(multiplied(terms_of(other), self._terms))

    def __neg__(self):
        return sum_of(added({}, self._terms, -1))

    def __pow__(self, other):
        if not is_count(other) or other > MOST_POWER:
            raise InvalidSum(other)
        terms = number_terms(1)
        for _ in range(other):
            terms = multiplied(terms, self._terms)
        return sum_of(terms)

    def __call__(self, sizes):
        if not isinstance(sizes, Sizes) and not is_size_table(sizes):
            raise InvalidSizes(sizes)
        numbers = sizes.numbers if isinstance(sizes, Sizes) else sizes
        for at in names_in(self._terms):
            if at not in numbers:
                raise InvalidSizeName(at)
        return worth_of(self._terms, numbers)

    def products(self):
        return {product: self._terms[product] for product in sorted(self._terms)}

    def shifted(self):
        terms = shifted_terms(self._terms)
        return {product: terms[product] for product in sorted(terms)}

    @property
    def degree(self):
        if len(self._terms) == 0:
            return None
        return max([sum([power for _, _, power in product]) for product in self._terms])

    @property
    def constant(self):
        if len(names_in(self._terms)) > 0:
            return None
        return self._terms.get((), 0)

    @property
    def is_positive(self):
        """Whether it has, in powers of the sizes less their least, positive coefficients alone, and is not 0."""
        if self._positive is None:
            self._positive = are_positive(self._terms)
        return self._positive

    @property
    def leading_products(self):
        """The sorted list of its products of which no other one is a multiple; it is never changed."""
        if self._leads is None:
            self._leads = leading_in(self._terms)
        return self._leads

    def at_most(self, other):
        if not isinstance(other, Sum):
            raise InvalidSum(other)
        rest = shifted_terms(added(other._terms, self._terms, -1))
        return all([rest[product] >= 0 for product in rest])

    def __eq__(self, other):
        return isinstance(other, Sum) and self._terms == other._terms

    def __bool__(self):
        return bool(self._terms)

    def __repr__(self):
        return f"Sum({self.products()!r})"


def sum_of(terms):
    made = Sum()
    made._terms = terms
    return made


def number_terms(number):
    return {(): number} if number != 0 else {}


def terms_of(value):
    """The terms of a Sum or an INTEGER on one side of a sign."""
    if isinstance(value, Sum):
        return value._terms
    if not is_integer(value):
        raise InvalidSum(value)
    return number_terms(value)


def without_zeros(terms):
    return {product: terms[product] for product in terms if terms[product] != 0}


def added(one, other, times):
    """The terms of one and of so many times the other."""
    total = {product: one[product] for product in one}
    for product in other:
        total[product] = total.get(product, 0) + times * other[product]
    return without_zeros(total)


def multiplied(one, other):
    total = {}
    for left in one:
        for right in other:
            product = joined_product(left, right)
            total[product] = total.get(product, 0) + one[left] * other[right]
    return without_zeros(total)


def joined_product(one, other):
    if len(one) == 0 or len(other) == 0:
        return one + other
    powers = {(label, name): power for label, name, power in one}
    for label, name, power in other:
        powers[label, name] = powers.get((label, name), 0) + power
    return tuple([(label, name, powers[label, name]) for label, name in sorted(powers)])


def shifted_terms(terms):
    """The terms in powers of the sizes of finds less 1, and of lists less 2."""
    for label, name in names_in(terms):
        terms = shifted_by(terms, label, name)
    return terms


def shifted_by(terms, label, name):
    """The terms in powers of this size less its least, which are written in the place of the powers of the size."""
    total = {}
    for product in terms:
        ahead = tuple([part for part in product if part[:2] < (label, name)])
        behind = tuple([part for part in product if part[:2] > (label, name)])
        power = sum([part[2] for part in product if part[:2] == (label, name)])
        worth = terms[product]
        for low in range(power + 1):
            own = ((label, name, power - low),) if low < power else ()
            longer = ahead + own + behind
            total[longer] = total.get(longer, 0) + comb(power, low) * worth
            worth = worth * LEAST[label]
    return without_zeros(total)


def are_positive(terms):
    if len(terms) == 0:
        return False
    # Written so, terms above 0 stay above 0.
    if all([terms[product] > 0 for product in terms]):
        return True
    shifted = shifted_terms(terms)
    return all([shifted[product] > 0 for product in shifted])


def leading_in(terms):
    """The sorted list of the products of which no other product of the terms is a multiple."""
    degrees = [(sum([power for _, _, power in product]), product) for product in terms]
    found = []
    for degree, product in sorted(degrees, reverse=True):
        if not has_multiple(found, degree, product):
            found.append((degree, {(label, name): power for label, name, power in product}, product))
    return sorted([product for _, _, product in found])


def has_multiple(found, degree, product):
    """Whether one of the tuples (degree, powers, product) is that of a multiple of this product."""
    for other, powers, _ in found:
        # A multiple has a greater degree.
        if other > degree and is_multiple(powers, product):
            return True
    return False


def is_multiple(powers, product):
    """Whether a product with these powers is a multiple of another one."""
    for label, name, power in product:
        if powers.get((label, name), 0) < power:
            return False
    return True


def names_in(terms):
    """The sorted list of the size names that stand in the terms."""
    found = {}
    for product in terms:
        for label, name, _ in product:
            found[label, name] = True
    return sorted(found)


def worth_of(terms, numbers):
    """What the terms are with these numbers as sizes."""
    powers = {}
    total = 0
    for product in terms:
        worth = terms[product]
        for label, name, power in product:
            if (label, name, power) not in powers:
                powers[label, name, power] = raised(numbers[label, name], power)
            worth = worth * powers[label, name, power]
        total = total + worth
    return total


def raised(number, power):
    worth = 1
    while power > 1:
        if power & 1 == 1:
            worth = worth * number
        number = number * number
        power = power // 2
    return worth * number if power == 1 else worth


def is_size_name(value):
    if not isinstance(value, tuple) or len(value) != 2:
        return False
    label, name = value
    return isinstance(label, str) and label in LEAST and is_name(name)


def is_size_table(value):
    """Whether the value is a dict from size names to integers."""
    if not isinstance(value, dict):
        return False
    return all([is_size_name(at) and is_integer(value[at]) for at in value])
