"""Words of routes: the names of finds and links, one after another, and the places to which they lead."""

from fetchwalks.checks import are_words
from fetchwalks.errors import InvalidPlace, InvalidRoute, InvalidText, TooMany, UnknownLink
from fetchwalks.walks import check_walk

MOST_PLACES = 2000


def is_route(walk, value):
    check_walk(walk)
    return route_kind(walk, value) is not None


def is_place(walk, value):
    check_walk(walk)
    return place_kind(walk, value) is not None


def kind_at(walk, route):
    check_walk(walk)
    check_route(walk, route)
    return route_kind(walk, route)


def route_text(route):
    return ".".join(route)


def read_route(walk, text):
    check_walk(walk)
    if not isinstance(text, str):
        raise InvalidText(1)
    route = tuple(text.split("."))
    if route_kind(walk, route) is None:
        raise InvalidText(1)
    return route


def leads(walk, place, link):
    check_walk(walk)
    check_place(walk, place)
    links = walk.schema.link_rows
    if not walk.schema.has_link(link) or links[link][0] != route_kind(walk, place):
        raise UnknownLink(link)
    return ends_of(links, place, link)


def reductions(walk, route):
    check_walk(walk)
    check_route(walk, route)
    links = walk.schema.link_rows
    places = [route[:1]]
    for link in route[1:]:
        places = next_places(links, places, link)
        if len(places) > MOST_PLACES:
            raise TooMany("places", MOST_PLACES)
    return sorted(places)


def ends_of(links, place, link):
    """The sorted list of the places to which a link leads that can follow the route of the place."""
    _, _, back, is_list, single = links[link]
    if len(place) == 1 or place[-1] != back:
        return [place + (link,)]
    # The link leads back; behind its own field, a list that is not single also leads to another member.
    if is_list and not single:
        return [place[:-1], place + (link,)]
    return [place[:-1]]


def next_places(links, places, link):
    """The different places to which a link leads from several places of one kind."""
    table = {}
    for place in places:
        for end in ends_of(links, place, link):
            table[end] = True
    return list(table)


def route_kind(walk, value):
    """The kind to which a route leads, or None for any value that is no route."""
    if not are_words(value) or len(value) == 0:
        return None
    links, kind = walk.schema.link_rows, walk.kind_of_find(value[0])
    for link in value[1:]:
        if link not in links or links[link][0] != kind:
            return None
        kind = links[link][1]
    return kind


def place_kind(walk, value):
    """The kind to which a place leads, or None for any value that is no place."""
    kind = route_kind(walk, value)
    if kind is None:
        return None
    links = walk.schema.link_rows
    for one, other in zip(value[1:], value[2:]):
        _, _, back, is_list, single = links[one]
        if other == back and (is_list or single):
            return None
    return kind


def check_route(walk, route):
    if route_kind(walk, route) is None:
        raise InvalidRoute(route)


def check_place(walk, place):
    if place_kind(walk, place) is None:
        raise InvalidPlace(place)
