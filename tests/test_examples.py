"""The examples of the document, as they stand there."""

import doctest
import unittest

STAGE_1 = """
>>> from fetchwalks.schemas import Schema
>>> from fetchwalks.stores import Store
>>> shop = Schema(["order", "customer", "shop"], {"buyer": ("order", "customer", "orders", False), "place": ("order", "shop", None, False)})
>>> [shop.links(), shop.target_of("orders"), shop.back_of("place"), shop.links_from("customer")]
[['buyer', 'orders', 'place'], 'order', None, ['orders']]
>>> store = Store(shop)
>>> store["customer", 1] = {}
>>> store["order", 1] = {"buyer": 1, "place": None}
>>> store["order", 2] = {"buyer": 1, "place": None}
>>> [len(store), store.members("orders", 1), store["order", 2], ("shop", 1) in store]
[3, [1, 2], {'buyer': 1, 'place': None}, False]
"""

STAGE_2 = """
>>> from fetchwalks.runs import touched, touches
>>> from fetchwalks.walks import Walk
>>> walk = Walk(shop, [("find", "o", "order", "many", (("go", "o", "buyer", "c", (("for", "c", "orders", "p", (("go", "p", "place", "s", ()),)),)),))])
>>> [walk.spots(), walk.route((0, 0, 0, 0)), walk.loops(), walk.owner_of((0, 0, 0))]
[[(0,), (0, 0), (0, 0, 0), (0, 0, 0, 0)], ('o', 'buyer', 'orders', 'place'), [(0, 0, 0)], (0, 0)]
>>> [list(touches(walk, store, {"o": [2]})), touched(walk, store, {"o": []})]
[[((0,), 2), ((0, 0), 1), ((0, 0, 0), 1), ((0, 0, 0), 2)], []]
"""

STAGE_3 = """
>>> from fetchwalks.plans import Plan, first_ring
>>> from fetchwalks.sessions import Session, questions
>>> early = Plan.of(shop, buyer="along")
>>> [len(questions(store, Plan(shop), walk, {"o": [1, 2]})), len(questions(store, early, walk, {"o": [1, 2]}))]
[3, 2]
>>> [first_ring(shop, ["buyer", "orders"]), [question.label for question in questions(store, early, walk, {"o": [2]})]]
[None, ['find', 'list']]
"""

STAGE_4 = """
>>> from fetchwalks.places import looped_places, touched_places, why_place
>>> from fetchwalks.words import reductions, route_text
>>> touched_places(walk).rows()
[('o',), ('o', 'buyer'), ('o', 'buyer', 'orders'), ('o', 'buyer', 'orders', 'place'), ('o', 'place')]
>>> [looped_places(walk), reductions(walk, ("o", "buyer", "orders", "buyer")), route_text(("o", "place"))]
[[(('o', 'buyer'), 'orders')], [('o', 'buyer')], 'o.place']
>>> why_place(walk, ("o", "place"))
((0, 0, 0, 0), ['same'])
"""

STAGE_5 = """
>>> from fetchwalks.free import asked_and_kept, free_store
>>> from fetchwalks.numbers import most, most_kept
>>> from fetchwalks.sizes import Sizes
>>> late, sizes = Plan(shop), Sizes.of(walk, ("find", "o", 3), ("list", "orders", 4))
>>> [most(walk, late).products(), most(walk, late)(sizes), most(walk, early)(sizes), most_kept(walk, late)(sizes)]
[{(): 1, (('find', 'o', 1),): 2, (('find', 'o', 1), ('list', 'orders', 1)): 1}, 19, 16, 27]
>>> asked_and_kept(walk, late, *free_store(walk, late, sizes))
(19, 27)
"""

STAGE_6 = """
>>> from fetchwalks.walkpairs import is_within, needless, parting
>>> twice = walk + Walk(shop, [("find", "o", "order", "many", (("go", "o", "place", "t", ()),))])
>>> [is_within(walk, twice), is_within(twice, walk), needless(twice)]
[True, False, []]
"""

# What the document says in words about the walks of its last example.
PARTED = """
>>> parted, roots, thing = parting(walk, twice)
>>> [parted.rows(), roots, thing]
[[('order', 1, {'buyer': None, 'place': 1}), ('shop', 1, {})], {'o': [1]}, ('object', 'shop', 1)]
"""


STAGE_7 = """
>>> from fetchwalks.early import bound, bounded_plan, must
>>> from fetchwalks.growth import grows_no_faster
>>> from fetchwalks.sums import Sum
>>> [must(walk), bounded_plan(walk).words()["place"], bound(walk, bounded_plan(walk))]
[['buyer', 'orders', 'place'], 'along', 1]
>>> n, m = Sum.size("find", "o"), Sum.size("list", "orders")
>>> [grows_no_faster(n * m, n * n + m ** 2), grows_no_faster(n * m, n + m), (n * m + 1)(sizes)]
[True, False, 13]
"""


STAGE_8 = """
>>> from fetchwalks.changes import Editor
>>> editor = Editor(store)
>>> done = editor.run(walk, {"o": [1, 2]})
>>> editor.change("order", 2, "buyer", None)
>>> [editor.members_shown("orders", 1), editor.shown("order", 2)["buyer"], editor.changed(), editor.store.members("orders", 1)]
[[1], None, [('order', 2, 'buyer')], [1, 2]]
>>> [editor.run(walk, {"o": [2]}), len(editor), editor.save(), editor.store.members("orders", 1), editor.changed()]
[[((0,), 2)], 4, None, [1], []]
"""

STAGE_9 = """
>>> from fetchwalks.desk import Desk
>>> desk = Desk()
>>> desk.do_all("schema s kind a | kind b | field f a b list g", "walk w s find x a many |   go x f y", "plan p s", "places w", "most w p find/x=5 list/g=2")
['done', 'done', 'done', 'x x.f', '6']
"""

# What the document tells in words ahead of the first stage: m is the most of a customer.
OVERVIEW = """
>>> most(walk, Plan.of(shop, place="along")) == 1 + 2 * n
True
>>> most(walk, Plan.of(shop, buyer="along", place="along")) == 1 + n
True
>>> from fetchwalks.numbers import most_by_link
>>> most_by_link(walk, late)["place"] == n + n * (m - 1)
True
"""


class Examples(unittest.TestCase):
    def test_all_in_their_sequence(self):
        names = {}
        for number, text in enumerate([STAGE_1, STAGE_2, STAGE_3, STAGE_4, STAGE_5, STAGE_6, PARTED, STAGE_7, STAGE_8, STAGE_9, OVERVIEW]):
            test = doctest.DocTestParser().get_doctest(text, names, f"example {number}", None, 0)
            told = []
            result = doctest.DocTestRunner().run(test, out=told.append, clear_globs=False)
            self.assertEqual((result.failed, result.attempted > 0), (0, True), "".join(told))
            names = test.globs


if __name__ == "__main__":
    unittest.main()
