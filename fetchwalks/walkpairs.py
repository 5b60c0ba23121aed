"""Two walks: whether one is within the other in every store, what parts them, and what can be left out."""

from fetchwalks.checks import is_integer, is_path
from fetchwalks.errors import InvalidRoots
from fetchwalks.minimal import minimal_for
from fetchwalks.runs import check_roots, looped_lists, touched
from fetchwalks.sketches import Sketch, covers_aim, fit_of
from fetchwalks.stores import Store
from fetchwalks.walkbodies import finds_without
from fetchwalks.walks import Walk, check_comparable, check_walk


def is_within(one, other, *, lists=True):
    check_pair(one, other)
    return first_uncovered(one, other, lists) is None


def are_alike(one, other, *, lists=True):
    check_pair(one, other)
    return first_uncovered(one, other, lists) is None and first_uncovered(other, one, lists) is None


def covers(one, other):
    check_pair(one, other)
    return first_uncovered(other, one, True) is None


def parting(one, other, *, lists=True):
    check_pair(one, other)
    found = parting_from(one, other, lists)
    return parting_from(other, one, lists) if found is None else found


def parting_from(one, other, lists):
    """The tuple (store, roots, thing) of what one comes to and the other one does not, or None."""
    aim = first_uncovered(one, other, lists)
    if aim is None:
        return None
    path = aim.found_at[0][:len(aim.steps)]
    store, roots, things = minimal_for(one, path)
    _, number = things[path[:aim.goal + 1]]
    return (store, roots, (aim.word, aim.name, number))


def is_parting(one, other, value, *, lists=True):
    check_pair(one, other)
    sides = sides_of(one, other, value, lists)
    return sides is not None and sides[0] != sides[1]


def sides_of(one, other, value, lists):
    """Whether one, and whether the other one, comes to the thing of such a tuple; None for any other value."""
    if not isinstance(value, tuple) or len(value) != 3:
        return None
    store, roots, thing = value
    if not isinstance(store, Store) or store.schema != one.schema or not is_thing(thing, lists):
        return None
    try:
        check_roots(one, store, roots)
    except InvalidRoots:
        return None
    return (comes_to(one, store, roots, thing), comes_to(other, store, roots, thing))


def is_thing(value, lists):
    if not isinstance(value, tuple) or len(value) != 3:
        return False
    word, name, number = value
    if not isinstance(word, str) or not isinstance(name, str) or not is_integer(number):
        return False
    return word == "object" or (word == "list" and lists)


def comes_to(walk, store, roots, thing):
    """Whether the walk touches this object, or loops this list."""
    word, name, number = thing
    if word == "object":
        return (name, number) in touched(walk, store, roots)
    return (name, number) in looped_lists(walk, store, roots)


def maps(one, other):
    check_pair(one, other)
    others = all_aims(other, True)
    table = {}
    for aim in all_aims(one, True):
        sketch = Sketch(one.schema, aim.steps)
        second = first_cover(sketch, aim, others)
        if second is None:
            return None
        start = second.found_at[0]
        depths = mapped_depths(sketch, fit_of(sketch, aim, second))
        for spot in aim.found_at:
            mapped = {start[:depth + 1]: spot[:depths[depth] + 1] for depth in depths}
            table[aim.word, spot] = (start, mapped)
    return {key: table[key] for key in sorted(table)}


def mapped_depths(sketch, fitted):
    """For each step of what was fitted into the sketch the first of the sketch's steps that has its object."""
    return {depth: sketch.things.index(fitted[depth]) for depth in fitted}


def are_maps(one, other, value):
    check_pair(one, other)
    aims = all_aims(one, True)
    if not isinstance(value, dict) or len(value) != sum([len(aim.found_at) for aim in aims]):
        return False
    if not all([is_map_key(key) for key in value]):
        return False
    others = {(aim.word, spot): aim for aim in all_aims(other, True) for spot in aim.found_at}
    for aim in aims:
        sketch = Sketch(one.schema, aim.steps)
        for spot in aim.found_at:
            if (aim.word, spot) not in value or not is_cover(sketch, aim, spot, others, value[aim.word, spot]):
                return False
    return True


def is_map_key(value):
    return isinstance(value, tuple) and len(value) == 2 and isinstance(value[0], str) and is_path(value[1])


def is_cover(sketch, aim, spot, others, value):
    """Whether the value is a tuple of a spot of the other walk and a map for the aim's spot and this one."""
    if not isinstance(value, tuple) or len(value) != 2:
        return False
    start, mapped = value
    if not is_path(start) or (aim.word, start) not in others:
        return False
    other = others[aim.word, start]
    if not aim.could_meet(other):
        return False
    things = mapped_things(sketch, spot, other, start, mapped)
    return things is not None and is_fit(sketch, aim, other, things)


def mapped_things(sketch, spot, other, start, value):
    """The objects of the other aim's steps if the value is a dict from all spots ahead on the way to start to spots
    ahead on the way to the spot, and the find is mapped to itself, otherwise None.
    """
    if not isinstance(value, dict) or len(value) != len(other.depths) or not all([is_path(key) for key in value]):
        return None
    things = {}
    for depth in other.depths:
        end = value.get(start[:depth + 1])
        if not is_path(end) or not 1 <= len(end) <= len(sketch.things) or end != spot[:len(end)]:
            return None
        if sketch.things[len(end) - 1] is None or (depth == 0 and len(end) > 1):
            return None
        things[depth] = sketch.things[len(end) - 1]
    return things


def is_fit(sketch, aim, other, things):
    """Whether the other aim comes to the same in the sketch of the aim, its steps having these objects."""
    for depth, (word, name, owner) in enumerate(other.steps):
        if word == "if":
            if things[owner] not in sketch.marked.get(name, ()):
                return False
        elif depth > 0 and things[depth] not in sketch.ends(things[owner], name):
            return False
    return things[other.goal] == sketch.things[aim.goal]


def needless(walk):
    check_walk(walk)
    covering = cover_table(walk)
    needed = {}
    for aim in covering:
        # A statement is needed if all that covers some aim lies in it, and so all between the first and the last one.
        first = min([other.found_at[0] for other in covering[aim]])
        last = max([other.found_at[-1] for other in covering[aim]])
        length = 1
        while first[:length + 1] == last[:length + 1] and length < len(first):
            length += 1
            needed[first[:length]] = True
    return [path for path in walk.paths() if len(path) > 1 and path not in needed]


def lean(walk):
    check_walk(walk)
    gone = spared_paths(walk)
    if len(gone) == 0:
        return walk.written_out()
    return Walk(walk.schema, finds_without(walk.plain_finds, gone))


def is_lean(walk):
    check_walk(walk)
    return walk == walk.written_out() and len(needless(walk)) == 0


def cover_table(walk):
    """From each aim of a walk to the list of its aims that come to the same, itself among them."""
    aims = all_aims(walk, True)
    table = {}
    for aim in aims:
        sketch = Sketch(walk.schema, aim.steps)
        table[aim] = [other for other in aims if covers_aim(sketch, aim, other)]
    return table


def spared_paths(walk):
    """The paths of statements that can be left out all together, each one the first that can be."""
    covering = cover_table(walk)
    aims_at = {path: [] for path in walk.paths()}
    for aim in covering:
        for spot in aim.found_at:
            aims_at[spot].append(aim)
    order = walk.paths()
    # The aims that have a spot ahead which stays.
    staying = {}
    gone = []
    position = 0
    while position < len(order):
        past = walk.program[position].past
        inside = [aim for path in order[position:past] for aim in aims_at[path]]
        behind = order[past] if past < len(order) else None
        if len(order[position]) > 1 and are_spared(inside, covering, staying, behind):
            gone.append(order[position])
            position = past
        else:
            for aim in aims_at[order[position]]:
                staying[aim] = True
            position += 1
    return gone


def are_spared(inside, covering, staying, behind):
    """Whether all aims are covered by what stays ahead, or by what stands from the path behind on."""
    for aim in inside:
        found = False
        for other in covering[aim]:
            if other in staying or (behind is not None and other.found_at[-1] >= behind):
                found = True
        if not found:
            return False
    return True


def all_aims(walk, lists):
    """The aims for objects and, if lists, for lists, these ahead."""
    loops, objects = walk.aims
    return loops + objects if lists else list(objects)


def first_cover(sketch, aim, others):
    """The first of the others that comes to the same in the sketch of the aim, or None."""
    for other in others:
        if covers_aim(sketch, aim, other):
            return other
    return None


def first_uncovered(one, other, lists):
    """The first aim of one to which the other one does not come in its minimal store, or None."""
    others = all_aims(other, lists)
    for aim in all_aims(one, lists):
        if first_cover(Sketch(one.schema, aim.steps), aim, others) is None:
            return aim
    return None


def check_pair(one, other):
    check_walk(one)
    check_walk(other)
    check_comparable(one, other)
