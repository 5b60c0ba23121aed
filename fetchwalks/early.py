"""Which links must be read early, and which plans are not beaten by others."""

from fetchwalks.classes import rows_now, touched_factors
from fetchwalks.errors import LinkRing, TooMany
from fetchwalks.places import looped_now, touched_now
from fetchwalks.plans import Plan, check_plan, first_ring
from fetchwalks.schemas import check_same_schema
from fetchwalks.sizes import check_sizes
from fetchwalks.tallies import PlanTally
from fetchwalks.walks import check_comparable, check_walk

MOST_LINKS = 6


def must(walk):
    check_walk(walk)
    return growing_links(walk)


def is_bounded(walk, plan):
    check_walk(walk)
    check_plan(plan)
    check_same_schema(walk.schema, plan.schema)
    return all([link in plan for link in growing_links(walk)])


def bound(walk, plan):
    return len(rows_now(walk, plan)) if is_bounded(walk, plan) else None


def bounded_plan(walk):
    check_walk(walk)
    links = growing_links(walk)
    ring = first_ring(walk.schema, links)
    if ring is not None:
        raise LinkRing(ring)
    return along_plan(walk.schema, links)


def used_links(walk):
    check_walk(walk)
    links = [place[-1] for place in touched_now(walk) if len(place) > 1]
    return sorted(set(links + [link for _, link in looped_now(walk)]))


def unbeaten(walk, sizes):
    check_walk(walk)
    check_sizes(sizes)
    check_comparable(walk, sizes)
    links = used_links(walk)
    if len(links) > MOST_LINKS:
        raise TooMany("links", MOST_LINKS)
    tally = PlanTally(walk, sizes, links)
    firsts = {}
    # With ahead in the place of along a plan keeps as many objects, asks no fewer questions, and comes later.
    for along in bits_in_sequence(len(links)):
        numbers = tally.numbers_by(along)
        if numbers is not None and numbers not in firsts:
            firsts[numbers] = along
    rows = []
    for asked, kept in sorted(firsts):
        # Plans that ask more must keep less than all before.
        if len(rows) == 0 or kept < rows[-1][1]:
            early = [link for at, link in enumerate(links) if (firsts[asked, kept] >> at) & 1 == 1]
            rows.append((asked, kept, along_plan(walk.schema, early)))
    return rows


def growing_links(walk):
    """The sorted list of the last links of the classes that grow if all links are late."""
    factors = touched_factors(walk)
    lists = [link for place, link in looped_now(walk) if len(factors[place]) > 0]
    ends = [place[-1] for place in factors if len(place) > 1 and len(factors[place]) > 0]
    return sorted(set(lists + [link for link in ends if not walk.schema.is_list(link)]))


def bits_in_sequence(many):
    """The bits of all sets of so many links, the first link counting most."""
    rows = [0]
    for position in range(many):
        rows = [bits | own for bits in rows for own in (0, 1 << position)]
    return rows


def along_plan(schema, links):
    plan = Plan(schema)
    for link in links:
        plan[link] = "along"
    return plan
