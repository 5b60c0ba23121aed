"""Many walks and stores that are made by chance, the same ones each time, against other ways to find the answers."""

import random
import unittest

from chance import chance_finds, chance_roots, chance_schema, chance_store, chance_walk, slow_run
from fetchwalks.minimal import minimal_for_loop, minimal_store
from fetchwalks.runs import looped_lists, loops_of, touched, touches
from fetchwalks.walkpairs import are_alike, are_maps, is_lean, is_parting, is_within, lean, maps, needless, parting


def slow_within(one, other, lists):
    """As the fact tells it: by runs in all minimal stores."""
    for spot in one.spots():
        store, roots, things = minimal_store(one, spot)
        if things[spot] not in touched(other, store, roots):
            return False
    for loop in one.loops() if lists else []:
        store, roots, things = minimal_for_loop(one, loop)
        if (one.statement(loop)[2], things[one.owner_of(loop)][1]) not in looped_lists(other, store, roots):
            return False
    return True


class Runs(unittest.TestCase):
    def test_runs_with_blocks(self):
        chance = random.Random(1)
        for _ in range(400):
            schema, finds = chance_schema(chance), chance_finds(chance)
            walk, rows, blocks = chance_walk(chance, schema, finds, True)
            store = chance_store(chance, schema)
            roots = chance_roots(chance, store, finds)
            seen, looped = slow_run(store, rows, blocks, roots)
            self.assertEqual([(walk.kind_of(spot), number) for spot, number in touches(walk, store, roots)], seen)
            self.assertEqual([(walk.statement(loop)[2], number) for loop, number in loops_of(walk, store, roots)], looped)
            self.assertEqual(touched(walk, store, roots), sorted(set(seen)))
            self.assertEqual(looped_lists(walk, store, roots), sorted(set(looped)))
            out = walk.written_out()
            self.assertEqual(list(touches(out, store, roots)), list(touches(walk, store, roots)))

    def test_paths(self):
        chance = random.Random(2)
        for _ in range(200):
            walk, _, _ = chance_walk(chance, chance_schema(chance), chance_finds(chance), True)
            out = walk.written_out()
            self.assertEqual([walk.spots(), walk.loops()], [sorted(walk.spots()), sorted(walk.loops())])
            for path in walk.paths():
                self.assertEqual(walk.statement(path), out.statement(path))
            for path in walk.spots():
                owner = walk.owner_of(path)
                if owner is None:
                    self.assertEqual(walk.route(path), (walk.finds()[path[0]][0],))
                else:
                    self.assertEqual(walk.route(path), walk.route(owner) + (walk.statement(path)[2],))


class Pairs(unittest.TestCase):
    def pairs(self, seed, many):
        chance = random.Random(seed)
        for _ in range(many):
            schema, finds = chance_schema(chance), chance_finds(chance)
            one, other = [chance_walk(chance, schema, finds, chance.random() < 0.5)[0] for _ in range(2)]
            if chance.random() < 0.3:
                other = one + other
            yield chance, one, other

    def test_minimal_stores_lead_to_their_spots(self):
        for _, one, _ in self.pairs(3, 150):
            for spot in one.spots():
                store, roots, things = minimal_store(one, spot)
                self.assertIn((spot, things[spot][1]), list(touches(one, store, roots)))
            for loop in one.loops():
                store, roots, things = minimal_for_loop(one, loop)
                self.assertIn((loop, things[one.owner_of(loop)][1]), list(loops_of(one, store, roots)))

    def test_within_is_as_runs_in_minimal_stores_tell(self):
        told = {}
        for _, one, other in self.pairs(4, 500):
            for first, second in ((one, other), (other, one)):
                for lists in (True, False):
                    wanted = slow_within(first, second, lists)
                    told[wanted] = told.get(wanted, 0) + 1
                    self.assertEqual(is_within(first, second, lists=lists), wanted)
        self.assertTrue(min(told[True], told[False]) > 100, told)

    def test_within_holds_in_other_stores(self):
        for chance, one, other in self.pairs(5, 300):
            store = chance_store(chance, one.schema)
            roots = chance_roots(chance, store, one.finds())
            if is_within(one, other, lists=False):
                self.assertLessEqual(set(touched(one, store, roots)), set(touched(other, store, roots)))
            if is_within(one, other):
                self.assertLessEqual(set(looped_lists(one, store, roots)), set(looped_lists(other, store, roots)))

    def test_partings(self):
        for _, one, other in self.pairs(6, 300):
            for lists in (True, False):
                value = parting(one, other, lists=lists)
                self.assertEqual(value is None, are_alike(one, other, lists=lists))
                if value is not None:
                    self.assertTrue(is_parting(one, other, value, lists=lists))
                    self.assertTrue(is_parting(one, other, value))

    def test_maps(self):
        for chance, one, other in self.pairs(7, 300):
            for first, second in ((one, other), (other, one), (one, one)):
                value = maps(first, second)
                self.assertEqual(value is not None, is_within(first, second))
                if value is not None:
                    self.assertTrue(are_maps(first, second, value))
                    key = chance.choice(list(value))
                    spoilt = {**value, key: (value[key][0], {**value[key][1], (9,): (0,)})}
                    self.assertFalse(are_maps(first, second, spoilt))

    def test_needless_statements(self):
        for _, one, _ in self.pairs(8, 200):
            paths = [path for path in one.paths() if len(path) > 1]
            self.assertEqual(needless(one), [path for path in paths if are_alike(one, one.without(path))])

    def test_lean_walks(self):
        for _, one, other in self.pairs(9, 200):
            for walk in (one, other):
                rest = lean(walk)
                self.assertTrue(are_alike(walk, rest))
                self.assertTrue(is_lean(rest))
                self.assertEqual(needless(rest), [])
                self.assertEqual(is_lean(walk), rest == walk)
                self.assertEqual(lean(rest), rest)


if __name__ == "__main__":
    unittest.main()
