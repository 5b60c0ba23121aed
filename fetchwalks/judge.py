"""The judge: claims about all stores, their certificates, and whether a certificate shows its claim."""

from fetchwalks.checks import is_count
from fetchwalks.classes import factors_of, touched_factors
from fetchwalks.early import bound
from fetchwalks.errors import InvalidClaim
from fetchwalks.numbers import most, most_kept
from fetchwalks.places import choices_to, end_by_choices, is_place_table, place_table, reduced_now
from fetchwalks.plans import Plan
from fetchwalks.sizes import Sizes
from fetchwalks.walkpairs import are_maps, maps, parting_from, sides_of
from fetchwalks.walks import Walk

KINDS = ("most", "keeps", "grows", "bounded", "within", "apart")


def is_claim(value):
    if not isinstance(value, tuple) or len(value) < 3 or not isinstance(value[0], str):
        return False
    word, rest = value[0], value[3:]
    if word in ("within", "apart"):
        return are_comparable(value[1], value[2]) and len(rest) == 0
    if not are_planned(value[1], value[2]):
        return False
    if word in ("most", "keeps"):
        return len(rest) == 2 and are_sized(value[1], rest[0]) and is_count(rest[1])
    if word == "bounded":
        return len(rest) == 1 and is_count(rest[0])
    return word == "grows" and len(rest) == 0


def are_planned(walk, plan):
    return isinstance(walk, Walk) and isinstance(plan, Plan) and walk.schema == plan.schema


def are_sized(walk, sizes):
    return isinstance(sizes, Sizes) and walk.schema == sizes.schema and walk.finds() == sizes.finds()


def are_comparable(one, other):
    if not isinstance(one, Walk) or not isinstance(other, Walk):
        return False
    return one.schema == other.schema and one.finds() == other.finds()


def certificate_of(claim):
    check_claim(claim)
    word = claim[0]
    if word == "grows":
        return growing_spot(claim[1], claim[2])
    if word == "within":
        return maps(claim[1], claim[2])
    if word == "apart":
        return parting_from(claim[1], claim[2], True)
    return place_table(claim[1]) if is_right_number(claim) else None


def is_certificate(claim, value):
    check_claim(claim)
    word = claim[0]
    if word == "grows":
        return is_growing_spot(claim[1], claim[2], value)
    if word == "within":
        return are_maps(claim[1], claim[2], value)
    if word == "apart":
        return sides_of(claim[1], claim[2], value, True) == (True, False)
    return is_place_table(claim[1], value) and is_right_number(claim)


def check_claim(claim):
    if not is_claim(claim):
        raise InvalidClaim(claim)


def is_right_number(claim):
    """Whether a claim that tells a number is true."""
    if claim[0] == "bounded":
        return bound(claim[1], claim[2]) == claim[3]
    total = most(claim[1], claim[2]) if claim[0] == "most" else most_kept(claim[1], claim[2])
    return total(claim[3]) == claim[4]


def late_route(walk, plan, spot):
    """The route to a place whose weight is a count of the late question of a spot's link; None if it has none."""
    if spot not in walk:
        return None
    head = walk.statement(spot)
    if head[0] == "find" or head[2] in plan:
        return None
    return walk.route(spot) if head[0] == "go" else walk.route(walk.owner_of(spot))


def is_counted(walk, spot, place):
    """Whether a place to which the route leads, by some choices, is one of the spot's link."""
    head = walk.statement(spot)
    return head[0] == "for" or (len(place) > 1 and place[-1] == head[2])


def growing_spot(walk, plan):
    """The tuple (spot, choices) that shows a class that grows, or None if there is none."""
    factors, reduced = touched_factors(walk), reduced_now(walk)
    for spot in walk.spots():
        route = late_route(walk, plan, spot)
        for place in [] if route is None else reduced[route]:
            if len(factors[place]) > 0 and is_counted(walk, spot, place):
                return (spot, choices_to(walk.schema.link_rows, route, place))
    return None


def is_growing_spot(walk, plan, value):
    if not isinstance(value, tuple) or len(value) != 2:
        return False
    spot, choices = value
    route = late_route(walk, plan, spot)
    if route is None:
        return False
    place = end_by_choices(walk.schema.link_rows, route, choices)
    return place is not None and is_counted(walk, spot, place) and len(factors_of(walk, place)) > 0
