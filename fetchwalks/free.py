"""The free store, in which a walk asks and keeps as much as in any store that keeps some sizes."""

from fetchwalks.errors import TooMany
from fetchwalks.places import kept_now
from fetchwalks.plans import check_plan
from fetchwalks.runs import check_roots
from fetchwalks.schemas import check_same_schema
from fetchwalks.sessions import keeping_behind
from fetchwalks.sizes import check_sizes, size_at
from fetchwalks.stores import MOST_OBJECTS, Store, check_store
from fetchwalks.walks import check_comparable, check_walk


class FreeRows:
    """The rows of a free store while it is made, and the numbers of the objects at each place, in sequence."""

    def __init__(self, schema):
        self._links = schema.link_rows
        self._empty = {kind: empty_row(schema, kind) for kind in schema.kinds()}
        self._many = {kind: 0 for kind in schema.kinds()}
        self._table = {}
        self.ids_at = {}

    def add_roots(self, place, kind, many):
        self.ids_at[place] = self._make(kind, many)

    def add_ends(self, place, each):
        """Adds so many objects at a place to each object of the place without its last link."""
        link = place[-1]
        kind, target, back, is_list, _ = self._links[link]
        ends = []
        for owner in self.ids_at[place[:-1]]:
            made = self._make(target, each)
            ends.extend(made)
            if is_list:
                for number in made:
                    self._table[target, number][back] = owner
            else:
                self._table[kind, owner][link] = made[0]
        self.ids_at[place] = ends

    def told(self):
        """The list of the tuples (kind, number, row)."""
        return [(kind, number, self._table[kind, number]) for kind, number in self._table]

    def _make(self, kind, many):
        first = self._many[kind] + 1
        self._many[kind] = self._many[kind] + many
        made = list(range(first, first + many))
        for number in made:
            self._table[kind, number] = dict(self._empty[kind])
        return made


def free_store(walk, plan, sizes):
    check_walk(walk)
    check_plan(plan)
    check_sizes(sizes)
    check_same_schema(walk.schema, plan.schema)
    check_comparable(walk, sizes)
    # Sorted by their lengths, places of one length stay sorted as tuples.
    places = sorted(kept_now(walk, plan), key=len)
    each = sizes_at(walk, sizes, places)
    kinds = {name: kind for name, kind, _ in walk.finds()}
    free = FreeRows(walk.schema)
    for place in places:
        if len(place) == 1:
            free.add_roots(place, kinds[place[0]], each[place])
        else:
            free.add_ends(place, each[place])
    store = Store(walk.schema)
    store += free.told()
    return (store, {name: free.ids_at[(name,)] for name in sorted(kinds)})


def asked_and_kept(walk, plan, store, roots):
    check_walk(walk)
    check_plan(plan)
    check_store(store)
    check_roots(walk, store, roots)
    check_same_schema(walk.schema, plan.schema)
    check_same_schema(walk.schema, store.schema)
    keeping = keeping_behind(store, plan, walk, roots)
    return (len(keeping.asked), len(keeping.kept))


def sizes_at(walk, sizes, places):
    """From each place, none ahead of its beginnings, to its objects with each one of the place ahead of it."""
    links = walk.schema.link_rows
    many, each = {}, {}
    total = 0
    for place in places:
        each[place] = size_at(links, sizes.numbers, place)
        many[place] = each[place] if len(place) == 1 else each[place] * many[place[:-1]]
        total += many[place]
        if total > MOST_OBJECTS:
            raise TooMany("objects", MOST_OBJECTS)
    return each


def empty_row(schema, kind):
    fields, flags, _, _ = schema.shapes[kind]
    row = {field: None for field in fields}
    row.update({flag: True for flag in flags})
    return row
