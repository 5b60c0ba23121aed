"""Classes of answers as they are found: what is asked, which places are new, and what they weigh.

A weight is told by its factors, a sorted tuple of (label, name, power of the size, power of the size less 1).
"""

from math import comb

from fetchwalks.errors import TooMany
from fetchwalks.places import kept_now, looped_now, place_keys, touched_now
from fetchwalks.plans import links_by_kind, links_with
from fetchwalks.words import ends_of

MOST_CLASSES = 2000


class AnswerRow:
    """A class of answers: fresh has its new places by their kinds, after is the position of the class before."""

    def __init__(self, label, place, link, factors, fresh, after):
        self.word = label
        self.place = place
        self.link = link
        self.factors = factors
        self.fresh = fresh
        self.after = after
        self._keys_kept = None

    @property
    def new_keys(self):
        """The new places, sorted, as keys of a dict."""
        if self._keys_kept is None:
            self._keys_kept = place_keys([place for kind in self.fresh for place in self.fresh[kind]])
        return self._keys_kept


class Ways:
    """How a plan leads from place to place of a walk."""

    def __init__(self, walk, plan):
        self.linked = walk.schema.link_rows
        self.find_kinds = {name: kind for name, kind, _ in walk.finds()}
        self.not_late = plan.early
        self.ahead = links_with(plan, ("ahead",))
        self.along = links_by_kind(plan, ("along",))

    def kind_at_end(self, place):
        return self.find_kinds[place[0]] if len(place) == 1 else self.linked[place[-1]][1]

    def longer(self, place, link):
        """The places to which a link leads from this one that are longer."""
        return [end for end in ends_of(self.linked, place, link) if len(end) > len(place)]

    def with_along(self, places):
        """The places with those that come along, by their kinds."""
        table = {}
        waiting = list(places)
        while len(waiting) > 0:
            place = waiting.pop()
            kind = self.kind_at_end(place)
            table.setdefault(kind, []).append(place)
            for link in self.along[kind]:
                waiting.extend(self.longer(place, link))
        return table


def first_factors(walk):
    """From the name of each find to the factors of the weight of its place."""
    return {name: (("find", name, 1, 0),) if word == "many" else () for name, _, word in walk.finds()}


def factors_behind(links, factors, before, link):
    """The factors of a place with one link more, before being the last one of its links, or None."""
    _, _, back, is_list, single = links[link]
    if not is_list or single:
        return factors
    powers = {(label, name): (whole, less) for label, name, whole, less in factors}
    whole, less = powers.get(("list", link), (0, 0))
    # Behind its own field a list leads to the other members.
    powers["list", link] = (whole, less + 1) if before == back else (whole + 1, less)
    return tuple([at + powers[at] for at in sorted(powers)])


def factors_of(walk, place):
    """The factors of the weight of a place."""
    links, before = walk.schema.link_rows, None
    factors = first_factors(walk)[place[0]]
    for link in place[1:]:
        factors = factors_behind(links, factors, before, link)
        before = link
    return factors


def factor_table(walk, places, known):
    """From each place to its factors, which known tells of some of them; the places ahead on its way come ahead."""
    links, first = walk.schema.link_rows, first_factors(walk)
    table = {}
    for place in places:
        if place in known:
            table[place] = known[place]
        elif len(place) == 1:
            table[place] = first[place[0]]
        else:
            before = place[-2] if len(place) > 2 else None
            table[place] = factors_behind(links, table[place[:-1]], before, place[-1])
    return table


def touched_factors(walk):
    """From each touched place to its factors."""
    known = walk.memory.known
    if "factors" not in known:
        known["factors"] = factor_table(walk, touched_now(walk), {})
    return known["factors"]


def kept_factors(walk, plan):
    """From each kept place to its factors."""
    return factor_table(walk, kept_now(walk, plan), touched_factors(walk))


def rows_now(walk, plan):
    """The list of the classes of answers of a walk and a plan of one schema."""
    known = walk.memory.of_plan(plan)
    if "rows" not in known:
        known["rows"] = class_rows(walk, plan)
    return known["rows"]


def class_rows(walk, plan):
    ways = Ways(walk, plan)
    # Only so many kept places are gone through.
    kept_now(walk, plan)
    rows = first_rows(walk, ways)
    position = 0
    while position < len(rows):
        rows.extend(rows_behind(ways, rows[position], position))
        if len(rows) > MOST_CLASSES:
            raise TooMany("classes", MOST_CLASSES)
        position += 1
    return rows


def first_rows(walk, ways):
    """The classes that are not ahead."""
    rows = []
    for name, _, _ in walk.finds():
        place = (name,)
        rows.append(AnswerRow("find", place, None, (), ways.with_along([place]), None))
    factors = touched_factors(walk)
    for place in factors:
        if len(place) > 1 and place[-1] not in ways.not_late and not ways.linked[place[-1]][3]:
            rows.append(AnswerRow("object", place, place[-1], factors[place], ways.with_along([place]), None))
    for place, link in looped_now(walk):
        if link not in ways.not_late:
            fresh = ways.with_along(ways.longer(place, link))
            rows.append(AnswerRow("list", place, link, factors[place], fresh, None))
    return rows


def rows_behind(ways, row, position):
    """The ahead classes behind a class, which has this position."""
    rows = []
    for link in ways.ahead:
        starts = row.fresh.get(ways.linked[link][0], [])
        ends = []
        for place in starts:
            ends.extend(ways.longer(place, link))
        # A list is missed always, also if it leads only back.
        if len(ends) > 0 or (len(starts) > 0 and ways.linked[link][3]):
            rows.append(AnswerRow("ahead", None, link, row.factors, ways.with_along(ends), position))
    return rows


def weight_terms(walk, factors):
    """The terms of a weight with these factors."""
    weights = walk.memory.weights
    if factors not in weights:
        weights[factors] = times_factor(weight_terms(walk, factors[:-1]), factors[-1]) if len(factors) > 0 else {(): 1}
    return weights[factors]


def total_terms(walk, rows):
    """The terms of the sum of weights, which are told by a list of their factors."""
    counts = {}
    for factors in rows:
        counts[factors] = counts.get(factors, 0) + 1
    total = {}
    for factors in counts:
        many, terms = counts[factors], weight_terms(walk, factors)
        for product in terms:
            total[product] = total.get(product, 0) + many * terms[product]
    return {product: total[product] for product in total if total[product] != 0}


def times_factor(terms, factor):
    """The terms, whose size names are all less than the factor's, times the factor."""
    label, name, whole, less = factor
    total = {}
    for low in range(less + 1):
        power = whole + less - low
        sign = 1 if low & 1 == 0 else -1
        own = ((label, name, power),) if power > 0 else ()
        for product in terms:
            total[product + own] = sign * comb(less, low) * terms[product]
    return total
