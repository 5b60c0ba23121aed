"""Minimal stores: what a walk needs in order to come to one spot, or one loop."""

from fetchwalks.errors import UnknownSpot
from fetchwalks.sketches import list_aim, object_aim
from fetchwalks.stores import Store
from fetchwalks.walks import check_walk


def minimal_store(walk, spot):
    check_walk(walk)
    if spot not in walk:
        raise UnknownSpot(spot)
    return minimal_for_aim(walk, object_aim(walk, spot))


def minimal_for_loop(walk, loop):
    check_walk(walk)
    if loop not in walk or walk.statement(loop)[0] != "for":
        raise UnknownSpot(loop)
    return minimal_for_aim(walk, list_aim(walk, loop))


def minimal_for_aim(walk, aim):
    """The tuple (store, roots, things) for what the walk touches or loops."""
    sketch = aim.sketch(walk.schema)
    objects = numbered(sketch.made)
    store = Store(walk.schema)
    store += [(kind, number, sketch_row(walk.schema, sketch, thing, objects))
              for thing, (kind, number) in enumerate(objects)]
    names = [name for name, _, _ in walk.finds()]
    roots = {name: [] for name in sorted(names)}
    roots[names[aim.spot[0]]] = [1]
    return (store, roots, {spot: objects[sketch.things[spot]] for spot in sketch.things})


def numbered(kinds):
    """The tuples (kind, number), counted for each kind from 1 on."""
    return [(kind, kinds[:position + 1].count(kind)) for position, kind in enumerate(kinds)]


def sketch_row(schema, sketch, thing, objects):
    kind = objects[thing][0]
    row = {flag: thing in sketch.marked(flag) for flag in schema.flags_of(kind)}
    for field in schema.fields_of(kind):
        numbers = [objects[end][1] for end in sketch.ends(thing, field)]
        row[field] = numbers[0] if len(numbers) > 0 else None
    return row
