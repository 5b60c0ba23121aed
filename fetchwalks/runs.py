"""Runs of walks on stores: what they touch, and which lists they loop."""

from fetchwalks.checks import is_integer, is_sequence
from fetchwalks.errors import InvalidRoots
from fetchwalks.schemas import check_same_schema
from fetchwalks.stores import check_store
from fetchwalks.walks import check_walk


def touches(walk, store, roots):
    check_run(walk, store, roots)
    for word, spot, number in run_events(walk, store, roots):
        if word == "touch":
            yield spot, number


def loops_of(walk, store, roots):
    check_run(walk, store, roots)
    for word, loop, number in run_events(walk, store, roots):
        if word == "loop":
            yield loop, number


def touched(walk, store, roots):
    rows = list(touches(walk, store, roots))
    return sorted({(walk.kind_of(spot), number) for spot, number in rows})


def looped_lists(walk, store, roots):
    rows = list(loops_of(walk, store, roots))
    return sorted({(walk.statement(loop)[2], number) for loop, number in rows})


def check_run(walk, store, roots):
    check_walk(walk)
    check_store(store)
    check_roots(walk, store, roots)
    check_same_schema(walk.schema, store.schema)


def check_roots(walk, store, roots):
    finds = sorted(walk.finds())
    if not isinstance(roots, dict) or len(roots) != len(finds):
        raise InvalidRoots(None)
    if not all([name in roots for name, _, _ in finds]):
        raise InvalidRoots(None)
    for name, kind, word in finds:
        if not are_numbers(store, kind, roots[name]):
            raise InvalidRoots(name)
        if word == "one" and len(roots[name]) > 1:
            raise InvalidRoots(name)


def are_numbers(store, kind, value):
    """Whether the value is a list of different IDs of objects of this kind."""
    if not is_sequence(value) or not all([is_integer(number) for number in value]):
        return False
    return len(set(value)) == len(value) and all([(kind, number) in store for number in value])


def run_events(walk, store, roots):
    """Yields ("touch", spot, number) and ("loop", loop, number of the owner), as the run goes."""
    for position, find in enumerate(walk.written_finds()):
        _, name, _, _, body = find
        path = (position,)
        for number in roots[name]:
            numbers = {name: number}
            yield "touch", path, number
            yield from body_events(store, body, path, numbers)


def body_events(store, body, path, numbers):
    for position, step in enumerate(body):
        here = path + (position,)
        yield from step_events(store, step, here, numbers)


def step_events(store, step, here, numbers):
    word, x, name = step[:3]
    owner, body = numbers[x], step[-1]
    if word == "if":
        if store.is_true(name, owner):
            yield from body_events(store, body, here, numbers)
    else:
        if word == "for":
            yield "loop", here, owner
        for end in store.ends(name, owner):
            inner = {**numbers, step[3]: end}
            yield "touch", here, end
            yield from body_events(store, body, here, inner)
