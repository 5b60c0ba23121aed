"""Many walks and stores that are made by chance, the same ones each time, against other ways to find the answers."""

import random
import unittest

from fetchwalks.errors import TooMany
from fetchwalks.minimal import minimal_for_loop, minimal_store
from fetchwalks.runs import looped_lists, loops_of, touched, touches
from fetchwalks.schemas import Schema
from fetchwalks.stores import Store
from fetchwalks.walkpairs import are_alike, are_maps, is_lean, is_parting, is_within, lean, maps, needless, parting
from fetchwalks.walks import Walk

KINDS = ["a", "b"]
VARIABLES = "cdefghijklm"


def chance_schema(chance):
    fields = {}
    for number in range(chance.randint(1, 4)):
        back = chance.choice([None, "l", "l"])
        fields[f"f{'abcd'[number]}"] = (
            chance.choice(KINDS), chance.choice(KINDS), back and back + "abcd"[number], chance.random() < 0.4,
        )
    return Schema(KINDS, fields, {"u": "a", "v": "b"})


def chance_body(chance, schema, sight, depth, loops, blocks):
    body = []
    for _ in range(chance.choice([0, 1, 1, 2, 3]) if depth else 0):
        x = chance.choice(sorted(sight))
        links = schema.links_from(sight[x])
        if not loops:
            links = [link for link in links if not schema.is_list(link)]
        called = [name for name in blocks if blocks[name][0] == sight[x] and blocks[name][1] <= depth and blocks[name][2] <= loops]
        if called and chance.random() < 0.4:
            body.append(("call", chance.choice(called), x))
        elif links and chance.random() < 0.8:
            link = chance.choice(links)
            y = [name for name in VARIABLES if name not in sight][chance.randrange(3)]
            word = "for" if schema.is_list(link) else "go"
            inner = {**sight, y: schema.target_of(link)}
            rest = chance_body(chance, schema, inner, depth - 1, loops - (word == "for"), blocks)
            body.append((word, x, link, y, rest))
        else:
            flag = schema.flags_of(sight[x])[0]
            body.append(("if", x, flag, chance_body(chance, schema, sight, depth - 1, loops, blocks)))
    return tuple(body)


def chance_walk(chance, schema, finds, with_blocks):
    """A tuple (walk, finds, blocks), the walk being made of these finds and blocks."""
    rows, blocks = [], {}
    for name, depth, loops in [("r", 2, 1), ("s", 3, 1), ("t", 4, 2)] if with_blocks else []:
        kind = chance.choice(KINDS)
        rows.append(("block", name, kind, "x", chance_body(chance, schema, {"x": kind}, depth, loops, blocks)))
        blocks[name] = (kind, depth, loops)
    found = []
    for name, kind, word in finds:
        found.append(("find", name, kind, word, chance_body(chance, schema, {name: kind}, 5, 3, blocks)))
    try:
        walk = Walk(schema, found, rows)
    except TooMany:
        return chance_walk(chance, schema, finds, with_blocks)
    # Greater ones are tested elsewhere; many of them would take long.
    return (walk, found, rows) if len(walk) <= 50 else chance_walk(chance, schema, finds, with_blocks)


def chance_finds(chance):
    names = ["x", "y"][:chance.choice([1, 1, 2])]
    return [(name, chance.choice(KINDS), chance.choice(["one", "many"])) for name in names]


def chance_store(chance, schema):
    store = Store(schema)
    numbers = {kind: chance.sample(range(1, 9), chance.randint(1, 4)) for kind in KINDS}
    rows, taken = [], set()
    for kind in KINDS:
        for number in numbers[kind]:
            row = {flag: chance.random() < 0.7 for flag in schema.flags_of(kind)}
            for field in [link for link in schema.links_from(kind) if not schema.is_list(link)]:
                target = chance.choice(numbers[schema.target_of(field)] + [None])
                if schema.is_single(field) and (field, target) in taken:
                    target = None
                taken.add((field, target))
                row[field] = target
            rows.append((kind, number, row))
    store += rows
    return store


def chance_roots(chance, store, finds):
    roots = {}
    for name, kind, word in finds:
        ids = chance.sample(store.ids(kind), chance.randint(0, len(store.ids(kind))))
        roots[name] = ids[:1] if word == "one" else ids
    return roots


def slow_run(store, finds, blocks, roots):
    """What is touched and looped, as (kind, number) and (list, number), with blocks done as such."""
    schema, seen, looped = store.schema, [], []
    bodies = {name: (variable, body) for _, name, _, variable, body in blocks}

    def do(body, sight):
        for step in body:
            if step[0] == "call":
                variable, inner = bodies[step[1]]
                do(inner, {variable: sight[step[2]]})
                continue
            kind, number = sight[step[1]]
            if step[0] == "if":
                if store[kind, number][step[2]]:
                    do(step[3], sight)
                continue
            if step[0] == "go":
                ends = [store[kind, number][step[2]]]
            else:
                looped.append((step[2], number))
                field = schema.back_of(step[2])
                ends = [row[1] for row in store.rows() if row[0] == schema.target_of(step[2]) and row[2][field] == number]
            for end in ends:
                if end is not None:
                    seen.append((schema.target_of(step[2]), end))
                    do(step[4], {**sight, step[3]: (schema.target_of(step[2]), end)})

    for _, name, kind, _, body in finds:
        for number in roots[name]:
            seen.append((kind, number))
            do(body, {name: (kind, number)})
    return seen, looped


def slow_within(one, other, lists):
    """As the fact tells it: by runs in all minimal stores."""
    for spot in one.spots():
        store, roots, things = minimal_store(one, spot)
        if things[spot] not in touched(other, store, roots):
            return False
    for loop in one.loops() if lists else []:
        store, roots, things = minimal_for_loop(one, loop)
        if (one.statement(loop)[2], things[one.owner_of(loop)][1]) not in looped_lists(other, store, roots):
            return False
    return True


class Runs(unittest.TestCase):
    def test_runs_with_blocks(self):
        chance = random.Random(1)
        for _ in range(400):
            schema, finds = chance_schema(chance), chance_finds(chance)
            walk, rows, blocks = chance_walk(chance, schema, finds, True)
            store = chance_store(chance, schema)
            roots = chance_roots(chance, store, finds)
            seen, looped = slow_run(store, rows, blocks, roots)
            self.assertEqual([(walk.kind_of(spot), number) for spot, number in touches(walk, store, roots)], seen)
            self.assertEqual([(walk.statement(loop)[2], number) for loop, number in loops_of(walk, store, roots)], looped)
            self.assertEqual(touched(walk, store, roots), sorted(set(seen)))
            self.assertEqual(looped_lists(walk, store, roots), sorted(set(looped)))
            out = walk.written_out()
            self.assertEqual(list(touches(out, store, roots)), list(touches(walk, store, roots)))

    def test_paths(self):
        chance = random.Random(2)
        for _ in range(200):
            walk, _, _ = chance_walk(chance, chance_schema(chance), chance_finds(chance), True)
            out = walk.written_out()
            self.assertEqual([walk.spots(), walk.loops()], [sorted(walk.spots()), sorted(walk.loops())])
            for path in walk.paths():
                self.assertEqual(walk.statement(path), out.statement(path))
            for path in walk.spots():
                owner = walk.owner_of(path)
                if owner is None:
                    self.assertEqual(walk.route(path), (walk.finds()[path[0]][0],))
                else:
                    self.assertEqual(walk.route(path), walk.route(owner) + (walk.statement(path)[2],))


class Pairs(unittest.TestCase):
    def pairs(self, seed, many):
        chance = random.Random(seed)
        for _ in range(many):
            schema, finds = chance_schema(chance), chance_finds(chance)
            one, other = [chance_walk(chance, schema, finds, chance.random() < 0.5)[0] for _ in range(2)]
            if chance.random() < 0.3:
                other = one + other
            yield chance, one, other

    def test_minimal_stores_lead_to_their_spots(self):
        for _, one, _ in self.pairs(3, 150):
            for spot in one.spots():
                store, roots, things = minimal_store(one, spot)
                self.assertIn((spot, things[spot][1]), list(touches(one, store, roots)))
            for loop in one.loops():
                store, roots, things = minimal_for_loop(one, loop)
                self.assertIn((loop, things[one.owner_of(loop)][1]), list(loops_of(one, store, roots)))

    def test_within_is_as_runs_in_minimal_stores_tell(self):
        told = {}
        for _, one, other in self.pairs(4, 500):
            for first, second in ((one, other), (other, one)):
                for lists in (True, False):
                    wanted = slow_within(first, second, lists)
                    told[wanted] = told.get(wanted, 0) + 1
                    self.assertEqual(is_within(first, second, lists=lists), wanted)
        self.assertTrue(min(told[True], told[False]) > 100, told)

    def test_within_holds_in_other_stores(self):
        for chance, one, other in self.pairs(5, 300):
            store = chance_store(chance, one.schema)
            roots = chance_roots(chance, store, one.finds())
            if is_within(one, other, lists=False):
                self.assertLessEqual(set(touched(one, store, roots)), set(touched(other, store, roots)))
            if is_within(one, other):
                self.assertLessEqual(set(looped_lists(one, store, roots)), set(looped_lists(other, store, roots)))

    def test_partings(self):
        for _, one, other in self.pairs(6, 300):
            for lists in (True, False):
                value = parting(one, other, lists=lists)
                self.assertEqual(value is None, are_alike(one, other, lists=lists))
                if value is not None:
                    self.assertTrue(is_parting(one, other, value, lists=lists))
                    self.assertTrue(is_parting(one, other, value))

    def test_maps(self):
        for chance, one, other in self.pairs(7, 300):
            for first, second in ((one, other), (other, one), (one, one)):
                value = maps(first, second)
                self.assertEqual(value is not None, is_within(first, second))
                if value is not None:
                    self.assertTrue(are_maps(first, second, value))
                    key = chance.choice(list(value))
                    spoilt = {**value, key: (value[key][0], {**value[key][1], (9,): (0,)})}
                    self.assertFalse(are_maps(first, second, spoilt))

    def test_needless_statements(self):
        for _, one, _ in self.pairs(8, 200):
            paths = [path for path in one.paths() if len(path) > 1]
            self.assertEqual(needless(one), [path for path in paths if are_alike(one, one.without(path))])

    def test_lean_walks(self):
        for _, one, other in self.pairs(9, 200):
            for walk in (one, other):
                rest = lean(walk)
                self.assertTrue(are_alike(walk, rest))
                self.assertTrue(is_lean(rest))
                self.assertEqual(needless(rest), [])
                self.assertEqual(is_lean(walk), rest == walk)
                self.assertEqual(lean(rest), rest)


if __name__ == "__main__":
    unittest.main()
