"""How much plans ask and keep at some sizes, reckoned for many plans without going through all their places.

Only some links, told by the bits of a number, have the word along in these plans, and all others are late. What comes
along behind a place depends on the last link of the place alone, so it is reckoned once for each last link.
"""

from fetchwalks.places import looped_now, touched_now
from fetchwalks.sizes import size_at, size_behind
from fetchwalks.words import MOST_PLACES


class Amount:
    """How many there are of some sort, and what they are worth together."""

    def __init__(self):
        self.many = 0
        self.worth = 0

    def take(self, worth):
        self.many += 1
        self.worth += worth


class PlanTally:
    """Reckons for a walk and sizes; the links are all that the walk uses."""

    def __init__(self, walk, sizes, links):
        rows, followers = walk.schema.link_rows, walk.schema.followers
        self._follow = [[at for at, other in enumerate(links) if other in followers[link]] for link in links]
        self._each = [[size_behind(rows, sizes.numbers, link, other) for other in links] for link in links]
        # How often each link is asked for if it is late.
        self._late = [0] * len(links)
        # The touched places with their weights, and the other ones that are longer by this one link.
        self._touched = Amount()
        self._border = [Amount() for _ in links]
        self._finds = len(walk.finds())
        self._take_places(walk, sizes, links)

    def numbers_by(self, along):
        """The tuple of the numbers of questions and kept objects; None if this is no plan, or one that leads too far.
        """
        order = self._last_first(along)
        if order is None:
            return None
        kept = self._kept_by(order)
        if kept is None:
            return None
        # There is a class for each find, touched place and looped list at most: these are never too many.
        return (self._finds + sum([worth for at, worth in enumerate(self._late) if (along >> at) & 1 == 0]), kept)

    def _take_places(self, walk, sizes, links):
        rows, numbers = walk.schema.link_rows, sizes.numbers
        kinds = {name: kind for name, kind, _ in walk.finds()}
        places = {link: at for at, link in enumerate(links)}
        touched, worths = touched_now(walk), {}
        for place in touched:
            if len(place) == 1:
                worth = size_at(rows, numbers, place)
                able = [at for at, link in enumerate(links) if rows[link][0] == kinds[place[0]]]
            else:
                last = places[place[-1]]
                worth = worths[place[:-1]] * size_at(rows, numbers, place)
                able = self._follow[last]
                if not rows[place[-1]][3]:
                    self._late[last] += worth
            worths[place] = worth
            self._touched.take(worth)
            for at in able:
                longer = place + (links[at],)
                if longer not in touched:
                    self._border[at].take(worth * size_at(rows, numbers, longer))
        for place, link in looped_now(walk):
            self._late[places[link]] += worths[place]

    def _last_first(self, along):
        """The links of these bits, each one behind all that can follow it; None if they have a ring."""
        order = []
        rest = [at for at in range(len(self._follow)) if (along >> at) & 1 == 1]
        while len(rest) > 0:
            ends = [at for at in rest if not any([other in rest for other in self._follow[at]])]
            if len(ends) == 0:
                return None
            order.extend(ends)
            rest = [at for at in rest if at not in ends]
        return order

    def _kept_by(self, order):
        """The number of kept objects, or None if there are too many places."""
        # The places that begin with one that ends in this link, and their weights for each unit of its weight.
        many, worth = {}, {}
        all_many, all_worth = self._touched.many, self._touched.worth
        for at in order:
            behind = [other for other in self._follow[at] if other in many]
            many[at] = 1 + sum([many[other] for other in behind])
            worth[at] = 1 + sum([self._each[at][other] * worth[other] for other in behind])
            all_many += self._border[at].many * many[at]
            all_worth += self._border[at].worth * worth[at]
        return all_worth if all_many <= MOST_PLACES else None
