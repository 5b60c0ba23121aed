"""Two walks: whether one is within the other in every store, what parts them, and what can be left out."""

from fetchwalks.checks import is_integer, is_path
from fetchwalks.errors import InvalidRoots
from fetchwalks.minimal import minimal_for
from fetchwalks.runs import check_roots, looped_lists, touched
from fetchwalks.sketches import AimTable, covers_aim, fit_of
from fetchwalks.stores import Store
from fetchwalks.walkbodies import finds_without
from fetchwalks.walks import Walk, check_comparable, check_walk


def is_within(one, other, *, lists=True):
    check_pair(one, other)
    return first_uncovered(one, other, lists) is None


def are_alike(one, other, *, lists=True):
    check_pair(one, other)
    return first_uncovered(one, other, lists) is None and first_uncovered(other, one, lists) is None


def covers(one, other):
    check_pair(one, other)
    return first_uncovered(other, one, True) is None


def parting(one, other, *, lists=True):
    check_pair(one, other)
    found = parting_from(one, other, lists)
    return parting_from(other, one, lists) if found is None else found


def parting_from(one, other, lists):
    """The tuple (store, roots, thing) of what one comes to and the other one does not, or None."""
    aim = first_uncovered(one, other, lists)
    if aim is None:
        return None
    path = aim.found_at[0][:len(aim.steps)]
    store, roots, things = minimal_for(one, path)
    _, number = things[path[:aim.goal + 1]]
    return (store, roots, (aim.word, aim.name, number))


def is_parting(one, other, value, *, lists=True):
    check_pair(one, other)
    sides = sides_of(one, other, value, lists)
    return sides is not None and sides[0] != sides[1]


def sides_of(one, other, value, lists):
    """Whether one, and whether the other one, comes to the thing of such a tuple; None for any other value."""
    if not isinstance(value, tuple) or len(value) != 3:
        return None
    store, roots, thing = value
    if not isinstance(store, Store) or store.schema != one.schema or not is_thing(thing, lists):
        return None
    try:
        check_roots(one, store, roots)
    except InvalidRoots:
        return None
    return (comes_to(one, store, roots, thing), comes_to(other, store, roots, thing))


def is_thing(value, lists):
    if not isinstance(value, tuple) or len(value) != 3:
        return False
    word, name, number = value
    if not isinstance(word, str) or not isinstance(name, str) or not is_integer(number):
        return False
    return word == "object" or (word == "list" and lists)


def comes_to(walk, store, roots, thing):
    """Whether the walk touches this object, or loops this list."""
    word, name, number = thing
    if word == "object":
        return (name, number) in touched(walk, store, roots)
    return (name, number) in looped_lists(walk, store, roots)


def maps(one, other):
    check_pair(one, other)
    if first_uncovered(one, other, True) is not None:
        return None
    aims, others = aims_now(one), aims_now(other)
    table = {}
    for aim in aims.every():
        second = partner_of(one, other, aim)
        start = second.found_at[0]
        starts, depths = others.ways[start], mapped_depths(one.schema, aim, second)
        for spot in aim.found_at:
            ends = aims.ways[spot]
            table[aim.word, spot] = (start, {starts[depth]: ends[depths[depth]] for depth in depths})
    return {key: table[key] for key in sorted(table)}


def mapped_depths(schema, aim, second):
    """From each step with an object of a second aim, which covers the aim, to one of the aim's steps."""
    if aim.key == second.key:
        return {depth: depth for depth in aim.depths}
    sketch = aim.sketch(schema)
    fitted = fit_of(sketch, aim, second)
    return {depth: sketch.things.index(fitted[depth]) for depth in fitted}


def are_maps(one, other, value):
    check_pair(one, other)
    aims, others = aims_now(one), aims_now(other)
    if not isinstance(value, dict) or len(value) != len(aims.at_spot):
        return False
    for key in value:
        if not is_map_key(key) or key not in aims.at_spot or not is_cover(one.schema, aims, key, others, value[key]):
            return False
    return True


def is_map_key(value):
    return isinstance(value, tuple) and len(value) == 2 and isinstance(value[0], str) and is_path(value[1])


def is_cover(schema, aims, key, others, value):
    """Whether the value is a tuple of a spot of the other walk and a map for this one and the key's."""
    if not isinstance(value, tuple) or len(value) != 2:
        return False
    word, spot = key
    start, mapped = value
    if not is_path(start) or (word, start) not in others.at_spot or not isinstance(mapped, dict):
        return False
    aim, other = aims.at_spot[key], others.at_spot[word, start]
    if aim.key == other.key:
        starts, ends = others.ways[start], aims.ways[spot]
        # Most maps are such ones.
        if mapped == {starts[depth]: ends[depth] for depth in aim.depths} and are_plain(mapped):
            return True
    elif aim.group != other.group:
        return False
    lengths = mapped_lengths(aim, spot, other, start, mapped)
    return lengths is not None and is_fit(aim.sketch(schema), aim, other, lengths)


def are_plain(mapped):
    """Whether all numbers of the tuples in the dict are plain ones, not True or False."""
    odd = [number for path in mapped for number in path + mapped[path] if type(number) is not int]
    return len(odd) == 0


def mapped_lengths(aim, spot, other, start, value):
    """From the depths of the other aim's steps to the lengths of the spots to which they are mapped.

    None unless the dict is one from all spots ahead on the way to start to spots ahead on the way to the spot, in which
    the find is mapped to itself.
    """
    if len(value) != len(other.depths):
        return None
    lengths = {}
    for key in value:
        end = value[key]
        if not is_path(key) or not is_path(end) or key != start[:len(key)] or end != spot[:len(end)]:
            return None
        depth = len(key) - 1
        if depth not in other.depths or len(end) - 1 not in aim.depths or (depth == 0 and len(end) > 1):
            return None
        lengths[depth] = len(end)
    return lengths


def is_fit(sketch, aim, other, lengths):
    """Whether the other aim comes to the same in the sketch of the aim, its steps being mapped to these lengths."""
    things = {depth: sketch.things[lengths[depth] - 1] for depth in lengths}
    for depth, (word, name, owner) in enumerate(other.steps):
        if word == "if":
            if (sketch.marked.get(name, 0) >> things[owner]) & 1 == 0:
                return False
        elif depth > 0 and things[depth] not in sketch.ends(things[owner], name):
            return False
    return things[other.goal] == sketch.things[aim.goal]


def needless(walk):
    check_walk(walk)
    return list(needless_now(walk))


def needless_now(walk):
    """The sorted list of the paths of the needless statements."""
    known = walk.memory.known
    if "needless" not in known:
        needed = needed_paths(cover_table(walk))
        known["needless"] = [path for path in walk.path_rows if len(path) > 1 and path not in needed]
    return known["needless"]


def needed_paths(covering):
    """The paths of needed statements, as keys of a dict."""
    needed = {}
    for aim in covering:
        # A statement is needed if all that covers some aim lies in it, and so all between the first and the last one.
        first = min([other.found_at[0] for other in covering[aim]])
        last = max([other.found_at[-1] for other in covering[aim]])
        length = 1
        while first[:length + 1] == last[:length + 1] and length < len(first):
            length += 1
            needed[first[:length]] = True
    return needed


def lean(walk):
    check_walk(walk)
    known = walk.memory.known
    if "lean" not in known:
        known["lean"] = lean_walk(walk)
    return known["lean"]


def lean_walk(walk):
    if len(needless_now(walk)) == 0:
        return walk.written_out()
    return Walk(walk.schema, finds_without(walk.plain_finds, spared_paths(walk)))


def is_lean(walk):
    check_walk(walk)
    return len(walk.block_rows) == 0 and len(needless_now(walk)) == 0


def cover_table(walk):
    """From each aim of a walk to the list of its aims that come to the same, itself among them."""
    known = walk.memory.known
    if "covering" not in known:
        aims, schema = aims_now(walk), walk.schema
        known["covering"] = {aim: [other for other in aims.groups[aim.group]
                                   if aim.key == other.key or covers_aim(schema, aim, other)] for aim in aims.every()}
    return known["covering"]


def spared_paths(walk):
    """The paths of statements that can be left out all together, each one the first that can be."""
    covering = cover_table(walk)
    order = walk.paths()
    aims_at = {path: [] for path in order}
    for aim in covering:
        for spot in aim.found_at:
            aims_at[spot].append(aim)
    pasts = places_past(order)
    # The aims that have a spot ahead which stays.
    staying = {}
    gone = []
    position = 0
    while position < len(order):
        past = pasts[position]
        inside = [aim for path in order[position:past] for aim in aims_at[path]]
        behind = order[past] if past < len(order) else None
        if len(order[position]) > 1 and are_spared(inside, covering, staying, behind):
            gone.append(order[position])
            position = past
        else:
            for aim in aims_at[order[position]]:
                staying[aim] = True
            position += 1
    return gone


def places_past(order):
    """For each of the sorted paths the position of the first one behind it that does not lie within it."""
    pasts = []
    later = []
    for position in range(len(order) - 1, -1, -1):
        while len(later) > 0 and len(order[later[-1]]) > len(order[position]):
            later.pop()
        pasts.append(later[-1] if len(later) > 0 else len(order))
        later.append(position)
    return pasts[::-1]


def are_spared(inside, covering, staying, behind):
    """Whether all aims are covered by what stays ahead, or by what stands from the path behind on."""
    for aim in inside:
        found = False
        for other in covering[aim]:
            if other in staying or (behind is not None and other.found_at[-1] >= behind):
                found = True
        if not found:
            return False
    return True


def aims_now(walk):
    known = walk.memory.known
    if "aims" not in known:
        known["aims"] = AimTable(walk)
    return known["aims"]


def partner_of(one, other, aim):
    """An aim of the other walk that comes to the same in the sketch of the aim of one, or None."""
    others = aims_now(other)
    # The same steps always do.
    if aim.key in others.by_key:
        return others.by_key[aim.key]
    partners = one.memory.of_walk(other.memory)
    if aim not in partners:
        partners[aim] = partner_among(one.schema, aim, others.groups.get(aim.group, ()))
    return partners[aim]


def partner_among(schema, aim, others):
    for other in others:
        if covers_aim(schema, aim, other):
            return other
    return None


def first_uncovered(one, other, lists):
    """The first aim of one, lists first, to which the other one does not come in its minimal store, or None."""
    found = first_alone(one, other, "list") if lists else None
    return first_alone(one, other, "object") if found is None else found


def first_alone(one, other, word):
    """Likewise, of the aims for lists alone, or for objects."""
    facts = one.memory.of_walk(other.memory)
    if word not in facts:
        facts[word] = None
        aims = aims_now(one)
        for aim in aims.loop_aims if word == "list" else aims.object_aims:
            if partner_of(one, other, aim) is None:
                facts[word] = aim
                break
    return facts[word]


def check_pair(one, other):
    check_walk(one)
    check_walk(other)
    check_comparable(one, other)
