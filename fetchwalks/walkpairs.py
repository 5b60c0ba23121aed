"""Two walks: whether one is within the other in every store, what parts them, and what can be left out."""

from fetchwalks.checks import is_integer, is_path
from fetchwalks.errors import InvalidRoots
from fetchwalks.minimal import minimal_for_aim
from fetchwalks.runs import check_roots, looped_lists, touched
from fetchwalks.sketches import aims_of, all_covers, could_cover, first_cover
from fetchwalks.stores import Store
from fetchwalks.walks import check_comparable, check_walk


def is_within(one, other, *, lists=True):
    check_pair(one, other)
    return first_uncovered(one, other, lists) is None


def are_alike(one, other, *, lists=True):
    check_pair(one, other)
    return first_uncovered(one, other, lists) is None and first_uncovered(other, one, lists) is None


def covers(one, other):
    check_pair(one, other)
    return first_uncovered(other, one, True) is None


def parting(one, other, *, lists=True):
    check_pair(one, other)
    for walk, second in ((one, other), (other, one)):
        aim = first_uncovered(walk, second, lists)
        if aim is not None:
            store, roots, things = minimal_for_aim(walk, aim)
            kind, number = things[aim.goal]
            name = kind if aim.word == "object" else aim.name
            return (store, roots, (aim.word, name, number))
    return None


def is_parting(one, other, value, *, lists=True):
    check_pair(one, other)
    if not isinstance(value, tuple) or len(value) != 3:
        return False
    store, roots, thing = value
    if not isinstance(store, Store) or store.schema != one.schema or not is_thing(thing, lists):
        return False
    try:
        check_roots(one, store, roots)
    except InvalidRoots:
        return False
    return comes_to(one, store, roots, thing) != comes_to(other, store, roots, thing)


def is_thing(value, lists):
    if not isinstance(value, tuple) or len(value) != 3:
        return False
    word, name, number = value
    if not isinstance(word, str) or not isinstance(name, str) or not is_integer(number):
        return False
    return word == "object" or (word == "list" and lists)


def comes_to(walk, store, roots, thing):
    """Whether the walk touches this object, or loops this list."""
    word, name, number = thing
    if word == "object":
        return (name, number) in touched(walk, store, roots)
    return (name, number) in looped_lists(walk, store, roots)


def maps(one, other):
    check_pair(one, other)
    others = aims_of(other, True)
    table = {}
    for aim in aims_of(one, True):
        cover = first_cover(one.schema, aim, others)
        if cover is None:
            return None
        second, fitted = cover
        table[aim.word, aim.spot] = (second.spot, spots_for(aim.sketch(one.schema), fitted))
    return table


def spots_for(sketch, fitted):
    """The map that gives, in the place of each object, the first spot that has it."""
    first = {}
    for spot in sketch.things:
        first.setdefault(sketch.things[spot], spot)
    return {spot: first[fitted[spot]] for spot in fitted}


def are_maps(one, other, value):
    check_pair(one, other)
    aims = aims_of(one, True)
    if not isinstance(value, dict) or len(value) != len(aims):
        return False
    if not all([is_map_key(key) for key in value]):
        return False
    others = {(aim.word, aim.spot): aim for aim in aims_of(other, True)}
    for aim in aims:
        if (aim.word, aim.spot) not in value:
            return False
        if not is_cover(one.schema, aim, others, value[aim.word, aim.spot]):
            return False
    return True


def is_map_key(value):
    return isinstance(value, tuple) and len(value) == 2 and isinstance(value[0], str) and is_path(value[1])


def is_cover(schema, aim, others, value):
    """Whether the value is a tuple of a spot of the other walk and a map for the aim and this spot."""
    if not isinstance(value, tuple) or len(value) != 2:
        return False
    spot, mapped = value
    if not is_path(spot) or (aim.word, spot) not in others:
        return False
    other = others[aim.word, spot]
    sketch = aim.sketch(schema)
    return could_cover(aim, other) and is_spot_map(sketch, other, mapped) and is_map(sketch, aim, other, mapped)


def is_spot_map(sketch, other, value):
    """Whether the value is a dict from all spots ahead on the other aim's way to spots of the sketch."""
    ahead = other.spots_ahead()
    if not isinstance(value, dict) or len(value) != len(ahead) or not all([is_path(key) for key in value]):
        return False
    if not all([spot in value and is_path(value[spot]) for spot in ahead]):
        return False
    return all([value[spot] in sketch.things for spot in ahead])


def is_map(sketch, aim, other, mapped):
    things = {spot: sketch.things[mapped[spot]] for spot in mapped}
    for here, head, owner in other.steps:
        if head[0] == "find":
            right = mapped[here] == here
        elif head[0] == "if":
            right = things[owner] in sketch.marked(head[2])
        else:
            right = things[here] in sketch.ends(things[owner], head[2])
        if not right:
            return False
    return things[other.goal] == sketch.things[aim.goal]


def needless(walk):
    check_walk(walk)
    rows = cover_rows(walk)
    return [path for path in statement_paths(walk) if is_spared(path, rows)]


def lean(walk):
    check_walk(walk)
    rows = cover_rows(walk)
    gone = []
    for path in statement_paths(walk):
        if not any([is_under(path, earlier) for earlier in gone]) and is_spared(path, rows):
            gone.append(path)
            rows = rows_without(rows, path)
    rest = walk.written_out()
    # From the last one on, so that the paths ahead stay as they are.
    for path in gone[::-1]:
        rest = rest.without(path)
    return rest


def is_lean(walk):
    check_walk(walk)
    return walk == walk.written_out() and len(needless(walk)) == 0


def statement_paths(walk):
    return [path for path in walk.paths() if len(path) > 1]


def is_under(path, upper):
    """Whether the path is the upper one, or lies in its body."""
    return path[:len(upper)] == upper


def cover_rows(walk):
    """The tuples (spot, spots that cover it) for all that a walk touches and loops."""
    aims = aims_of(walk, True)
    return [(aim.spot, [other.spot for other in all_covers(walk.schema, aim, aims)]) for aim in aims]


def rows_without(rows, path):
    left = []
    for spot, found in rows:
        if not is_under(spot, path):
            left.append((spot, [other for other in found if not is_under(other, path)]))
    return left


def is_spared(path, rows):
    """Whether all that the statement does is done without it, too."""
    for spot, found in rows:
        if is_under(spot, path) and all([is_under(other, path) for other in found]):
            return False
    return True


def first_uncovered(one, other, lists):
    """The first aim of one to which the other one does not come in its minimal store, or None."""
    others = aims_of(other, lists)
    for aim in aims_of(one, lists):
        if first_cover(one.schema, aim, others) is None:
            return aim
    return None


def check_pair(one, other):
    check_walk(one)
    check_walk(other)
    check_comparable(one, other)
