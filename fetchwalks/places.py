"""Places: sets of them, and those that walks touch, loop and keep."""

from fetchwalks.checks import are_words, is_path, is_sequence
from fetchwalks.errors import InvalidPlace, InvalidPlaces, OtherFinds, TooMany, UnknownFind, UnknownSpot
from fetchwalks.plans import check_plan, links_by_kind
from fetchwalks.schemas import check_link, check_same_schema
from fetchwalks.walks import check_walk
from fetchwalks.words import MOST_PLACES, check_place, ends_of, next_places

CHOICES = ("same", "another")


class Places:
    def __init__(self, walk, rows=()):
        check_walk(walk)
        if not is_sequence(rows):
            raise InvalidPlace(rows)
        for row in rows:
            check_place(walk, row)
        self._walk = walk
        self._table = place_keys(rows)

    def __or__(self, other):
        check_places(self, other)
        return right_places(self._walk, self.rows() + other.rows())

    def __and__(self, other):
        check_places(self, other)
        return right_places(self._walk, [place for place in self._table if place in other._table])

    def __sub__(self, other):
        check_places(self, other)
        return right_places(self._walk, [place for place in self._table if place not in other._table])

    def is_part_of(self, other):
        check_places(self, other)
        return all([place in other._table for place in self._table])

    def __eq__(self, other):
        if not isinstance(other, Places) or self.schema != other.schema:
            return False
        return self.finds() == other.finds() and self._table == other._table

    def __contains__(self, x):
        return are_words(x) and x in self._table

    def __len__(self):
        return len(self._table)

    def __bool__(self):
        return bool(self._table)

    @property
    def schema(self):
        return self._walk.schema

    @property
    def is_closed(self):
        return all([len(place) == 1 or place[:-1] in self._table for place in self._table])

    def finds(self):
        return self._walk.finds()

    def rows(self):
        return list(self._table)

    def of_find(self, name):
        if not isinstance(name, str) or self._walk.kind_of_find(name) is None:
            raise UnknownFind(name)
        return right_places(self._walk, [place for place in self._table if place[0] == name])

    def ending(self, link):
        check_link(self.schema, link)
        return right_places(self._walk, [place for place in self._table if len(place) > 1 and place[-1] == link])

    def below(self, place):
        check_place(self._walk, place)
        return right_places(self._walk, [row for row in self._table if row[:len(place)] == place])


def right_places(walk, rows):
    """The Places of rows that are places of the walk."""
    made = Places(walk)
    made._table = place_keys(rows)
    return made


def ready_places(walk, table):
    """The Places of what place_keys told of places of the walk."""
    made = Places(walk)
    made._table = table
    return made


def place_keys(rows):
    """The different ones of the rows, sorted, as keys of a dict."""
    different = {row: True for row in rows}
    if len(different) > MOST_PLACES:
        raise TooMany("places", MOST_PLACES)
    return {row: True for row in sorted(different)}


def check_places(one, other):
    if not isinstance(other, Places):
        raise InvalidPlaces(other)
    check_same_schema(one.schema, other.schema)
    if one.finds() != other.finds():
        raise OtherFinds(one.finds(), other.finds())


def places_at(walk, spot):
    check_walk(walk)
    if spot not in walk:
        raise UnknownSpot(spot)
    return right_places(walk, reduced_now(walk)[walk.route(spot)])


def touched_places(walk):
    check_walk(walk)
    return ready_places(walk, touched_now(walk))


def kept_places(walk, plan):
    check_walk(walk)
    check_plan(plan)
    check_same_schema(walk.schema, plan.schema)
    return ready_places(walk, kept_now(walk, plan))


def looped_places(walk):
    check_walk(walk)
    return list(looped_now(walk))


def place_table(walk):
    check_walk(walk)
    reduced = reduced_now(walk)
    return {spot: list(reduced[walk.route(spot)]) for spot in walk.spots()}


def is_place_table(walk, value):
    table = place_table(walk)
    if not isinstance(value, dict) or len(value) != len(table):
        return False
    for spot in value:
        if not is_path(spot) or spot not in table:
            return False
        rows = value[spot]
        if not is_sequence(rows) or not all([are_words(row) for row in rows]) or list(rows) != table[spot]:
            return False
    return True


def why_place(walk, place):
    check_walk(walk)
    check_place(walk, place)
    reduced = reduced_now(walk)
    for spot in walk.spots():
        route = walk.route(spot)
        if place in reduced[route]:
            return (spot, choices_to(walk.schema.link_rows, route, place))
    return None


def choices_to(links, route, place):
    """The choices by which one comes along a route to a place."""
    choices = {route[:1]: []}
    for link in route[1:]:
        longer = {}
        for start in choices:
            ends = ends_of(links, start, link)
            for end, choice in zip(ends, CHOICES):
                made = [choice] if len(ends) > 1 else []
                longer[end] = choices[start] + made
        choices = longer
    return choices[place]


def shows_place(walk, place, value):
    check_walk(walk)
    check_place(walk, place)
    if not isinstance(value, tuple) or len(value) != 2:
        return False
    spot, choices = value
    return spot in walk and end_by_choices(walk.schema.link_rows, walk.route(spot), choices) == place


def end_by_choices(links, route, choices):
    """The place to which one comes along a route by these choices; None for any value that is no list of as many."""
    if not is_sequence(choices) or not all([isinstance(choice, str) and choice in CHOICES for choice in choices]):
        return None
    place, used = route[:1], 0
    for link in route[1:]:
        ends = ends_of(links, place, link)
        if len(ends) == 1:
            place = ends[0]
        elif used < len(choices):
            place = ends[CHOICES.index(choices[used])]
            used += 1
        else:
            return None
    return place if used == len(choices) else None


def prefixes(walk, place):
    check_walk(walk)
    check_place(walk, place)
    for length in range(1, len(place) + 1):
        yield place[:length]


def reduced_now(walk):
    """From the routes of all spots to the sorted lists of their reductions."""
    known = walk.memory.known
    if "reduced" not in known:
        known["reduced"] = reduced_routes(walk)
    return known["reduced"]


def touched_now(walk):
    """The touched places, sorted, as keys of a dict."""
    known = walk.memory.known
    if "touched" not in known:
        reduced = reduced_now(walk)
        known["touched"] = place_keys([place for route in reduced for place in reduced[route]])
    return known["touched"]


def looped_now(walk):
    """The sorted list of the looped tuples (place, list)."""
    known = walk.memory.known
    if "looped" not in known:
        known["looped"] = looped_in(walk, reduced_now(walk))
    return known["looped"]


def kept_now(walk, plan):
    """The kept places of a walk and a plan of one schema, sorted, as keys of a dict."""
    known = walk.memory.of_plan(plan)
    if "kept" not in known:
        known["kept"] = place_keys(kept_in(walk, plan, touched_now(walk)))
    return known["kept"]


def reduced_routes(walk):
    """From the routes of all spots to the sorted lists of their reductions."""
    links, rows = walk.schema.link_rows, walk.path_rows
    table = {}
    for path in rows:
        route = rows[path][3]
        # An if has no route.
        if route is not None and route not in table:
            # The route of a spot's x comes ahead of that of the spot.
            table[route] = [route] if len(route) == 1 else sorted(next_places(links, table[route[:-1]], route[-1]))
    return table


def looped_in(walk, reduced):
    """The sorted list of the looped tuples (place, list) of a walk with these reductions."""
    found = set()
    for loop in walk.loops():
        head, owner, _, _ = walk.path_rows[loop]
        for place in reduced[walk.route(owner)]:
            found.add((place, head[2]))
    return sorted(found)


def kept_in(walk, plan, touched):
    """The list of the kept places of a walk with these touched ones."""
    links = walk.schema.link_rows
    early = links_by_kind(plan, ("along", "ahead"))
    kinds = {name: kind for name, kind, _ in walk.finds()}
    kept = {place: True for place in touched}
    waiting = list(kept)
    while len(waiting) > 0:
        place = waiting.pop()
        kind = kinds[place[0]] if len(place) == 1 else links[place[-1]][1]
        for link in early[kind]:
            for end in ends_of(links, place, link):
                if end not in kept:
                    kept[end] = True
                    waiting.append(end)
        if len(kept) > MOST_PLACES:
            raise TooMany("places", MOST_PLACES)
    return list(kept)
