"""Runs of walks on stores: what they touch, and which lists they loop."""

from fetchwalks.checks import is_integer, is_sequence
from fetchwalks.errors import InvalidRoots
from fetchwalks.schemas import check_same_schema
from fetchwalks.stores import check_store
from fetchwalks.walks import check_walk


def touches(walk, store, roots):
    check_run(walk, store, roots)
    for word, step, number in run_events(walk, store, roots):
        if word == "touch":
            yield step.path, number


def loops_of(walk, store, roots):
    check_run(walk, store, roots)
    for word, step, number in run_events(walk, store, roots):
        if word == "loop":
            yield step.path, number


def touched(walk, store, roots):
    check_run(walk, store, roots)
    found = set()
    for word, step, number in run_events(walk, store, roots):
        if word == "touch":
            found.add((step.kind, number))
    return sorted(found)


def looped_lists(walk, store, roots):
    check_run(walk, store, roots)
    found = set()
    for word, step, number in run_events(walk, store, roots):
        if word == "loop":
            found.add((step.name, number))
    return sorted(found)


def check_run(walk, store, roots):
    check_walk(walk)
    check_store(store)
    check_roots(walk, store, roots)
    check_same_schema(walk.schema, store.schema)


def check_roots(walk, store, roots):
    finds = sorted(walk.finds())
    if not isinstance(roots, dict) or len(roots) != len(finds):
        raise InvalidRoots(None)
    if not all([name in roots for name, _, _ in finds]):
        raise InvalidRoots(None)
    for name, kind, word in finds:
        if not are_numbers(store, kind, roots[name]):
            raise InvalidRoots(name)
        if word == "one" and len(roots[name]) > 1:
            raise InvalidRoots(name)


def are_numbers(store, kind, value):
    """Whether the value is a list of different IDs of objects of this kind."""
    if not is_sequence(value) or not all([is_integer(number) for number in value]):
        return False
    return len(set(value)) == len(value) and all([(kind, number) in store for number in value])


def run_events(walk, store, roots):
    """Yields ("find", step, None), ("touch", step, number) and ("loop", step, number of the owner), as the run goes.

    The steps are those of the walk's program. A find comes ahead of its roots, a loop ahead of its members.
    """
    program = walk.program
    # The objects at the steps, and what the finds and loops that are going on have still to go through.
    numbers = [None] * len(program)
    going = []
    at = 0
    while at < len(program) or len(going) > 0:
        if len(going) > 0 and at == program[going[-1][0]].past:
            place, ends, turn = going.pop()
            if turn < len(ends):
                numbers[place] = ends[turn]
                going.append((place, ends, turn + 1))
                yield "touch", program[place], ends[turn]
                at = place + 1
            continue
        step = program[at]
        owner = None if step.owner is None else numbers[step.owner]
        if step.word == "if":
            at = at + 1 if store.is_true(step.name, step.owner_kind, owner) else step.past
        elif step.word == "go":
            numbers[at] = store.target(step.field, step.owner_kind, owner)
            if numbers[at] is not None:
                yield "touch", step, numbers[at]
            at = step.past if numbers[at] is None else at + 1
        else:
            yield "find" if step.word == "find" else "loop", step, owner
            ends = roots[step.name] if step.word == "find" else store.leading_to(step.field, owner)
            going.append((at, ends, 0))
            at = step.past
