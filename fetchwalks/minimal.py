"""Minimal stores: what a walk needs in order to come to one spot, or one loop."""

from fetchwalks.errors import UnknownSpot
from fetchwalks.sketches import Sketch
from fetchwalks.stores import Store
from fetchwalks.walks import check_walk


def minimal_store(walk, spot):
    check_walk(walk)
    if spot not in walk:
        raise UnknownSpot(spot)
    return minimal_for(walk, spot)


def minimal_for_loop(walk, loop):
    check_walk(walk)
    if loop not in walk or walk.statement(loop)[0] != "for":
        raise UnknownSpot(loop)
    # The minimal store of a loop has no object for its for.
    return minimal_for(walk, loop[:-1])


def minimal_for(walk, path):
    """The tuple (store, roots, things) for the steps to a path."""
    sketch = Sketch(walk.schema, walk.steps_to(path))
    objects = numbered(sketch.made)
    store = Store(walk.schema)
    store += [(kind, number, sketch_row(walk.schema, sketch, thing, objects))
              for thing, (kind, number) in enumerate(objects)]
    names = [name for name, _, _ in walk.finds()]
    roots = {name: [] for name in sorted(names)}
    roots[names[path[0]]] = [1]
    things = {}
    for depth, thing in enumerate(sketch.things):
        if thing is not None:
            things[path[:depth + 1]] = objects[thing]
    return (store, roots, things)


def numbered(kinds):
    """The tuples (kind, number), counted for each kind from 1 on."""
    return [(kind, kinds[:position + 1].count(kind)) for position, kind in enumerate(kinds)]


def sketch_row(schema, sketch, thing, objects):
    fields, flags, _, _ = schema.shapes[objects[thing][0]]
    row = {flag: (sketch.marked.get(flag, 0) >> thing) & 1 == 1 for flag in flags}
    for field in fields:
        numbers = [objects[end][1] for end in sketch.ends(thing, field)]
        row[field] = numbers[0] if len(numbers) > 0 else None
    return row
