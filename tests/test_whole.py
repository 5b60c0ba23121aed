"""The whole document: every function and class over one schema, and what the stages tell of the same things."""

import copy
import importlib
import random
import types
import unittest

from chance import chance_finds, chance_plan, chance_schema, chance_sizes, chance_store, chance_walk, least_sizes
from fetchwalks import errors
from fetchwalks.changes import Editor, tried_changes
from fetchwalks.desk import Desk
from fetchwalks.early import bound, bounded_plan, must, unbeaten, used_links
from fetchwalks.errors import LinkRing, TooMany
from fetchwalks.free import asked_and_kept, free_store
from fetchwalks.growth import direction, grows_no_faster, leading, shares
from fetchwalks.judge import certificate_of, is_certificate
from fetchwalks.numbers import Answers, answer_classes, first_growing, most, most_by_link, most_kept, weight
from fetchwalks.places import Places, kept_places, looped_places, place_table, touched_places, why_place
from fetchwalks.plans import Plan
from fetchwalks.runs import looped_lists, touched, touches
from fetchwalks.schemas import Schema
from fetchwalks.sessions import Question, Session, questions
from fetchwalks.sizes import Sizes
from fetchwalks.stores import Store
from fetchwalks.sums import Sum
from fetchwalks.texts import plan_text, read_plan, read_schema, read_walk, schema_text, walk_text
from fetchwalks.walkpairs import are_alike, covers, is_within, lean, maps, needless, parting
from fetchwalks.walks import Walk
from fetchwalks.words import route_text
from samples import ODD, shop_schema
from test_code import CLASSES, FUNCTIONS

DEEP = ("go", "o", "buyer", "c", (("for", "c", "orders", "p", (("go", "p", "place", "s", ()),)),))
FLAT = ("go", "o", "place", "s", ())


def shop_walk(*body, name="o"):
    return Walk(shop_schema(), [("find", name, "order", "many", body)])


def shop_store():
    store = Store(shop_schema())
    store += [("customer", 1, {}), ("shop", 1, {}), ("order", 1, {"buyer": 1, "place": 1}), ("order", 2, {"buyer": 1, "place": None})]
    return store


def shop_editor():
    editor = Editor(shop_store(), Plan.of(shop_schema(), place="along"))
    editor.run(shop_walk(DEEP), {"o": [1]})
    editor.change("order", 1, "buyer", None)
    return editor


def shop_desk():
    desk = Desk()
    desk.do_all("schema s kind a | kind b | field f a b list g", "walk w s find x a many |   go x f y", "plan p s", "store t s",
                "row t b 1")
    return desk


def things():
    """A new one of each kind of thing that is passed, by the names of parameters."""
    walk, less = shop_walk(DEEP), shop_walk(FLAT)
    sizes = Sizes.of(walk, ("find", "o", 3), ("list", "orders", 4))
    n, m = Sum.size("find", "o"), Sum.size("list", "orders")
    return {
        "walk": walk, "one": less, "other": walk, "schema": shop_schema(), "store": shop_store(),
        "plan": Plan.of(shop_schema(), place="along"),
        "sizes": sizes, "roots": {"o": [1, 2]}, "total": n * m + n, "editor": shop_editor(), "spot": (0, 0, 0), "loop": (0, 0, 0),
        "place": ("o", "place"), "route": ("o", "buyer", "orders", "place"), "link": "buyer", "links": ["buyer", "orders"],
        "words": [("buyer", "along")],
        "changes": [("order", 2, "buyer", None)], "ask": repr_of, "claim": ("most", walk, Plan(shop_schema()), sizes, 19), "path": (0, 0),
        "kind": "order", "number": 1, "text": "kind a\n", "name": "buyer", "value": None, "find": "o",
    }


def repr_of(thing):
    return sorted(seen(thing).items()) if isinstance(thing, Editor) else repr(thing)


# What is passed where the names of the parameters do not tell it.
SPECIAL = {
    "read_route": {"text": "o.buyer.orders"}, "read_walk": {"text": "find o order many\n  go o buyer c\n"},
    "read_plan": {"text": "buyer along\n"},
    "is_route": {"value": ("o", "buyer")}, "is_place": {"value": ("o", "buyer")}, "leads": {"place": ("o", "buyer"), "link": "orders"},
    "can_follow": {"one": "buyer", "other": "orders"}, "shows_place": {"value": ((0, 0, 0, 0), ["same"])},
    "grows_no_faster": "sums", "shares": "sums", "direction": "sums", "are_shares": "sums", "is_direction": "sums",
}


def arguments_of(name, wanted):
    """The dict of the arguments for a function with these parameters; keywords that have defaults are left out."""
    told = things()
    if SPECIAL.get(name) == "sums":
        n, m = Sum.size("find", "o"), Sum.size("list", "orders")
        told["one"], told["other"] = (n * m, n + m) if "direction" in name else (n * m, n * n + m * m)
        told["value"] = direction(told["one"], told["other"]) if name == "is_direction" else shares(told["one"], told["other"])
    elif name in SPECIAL:
        told.update(SPECIAL[name])
    elif name == "is_place_table":
        told["value"] = place_table(told["walk"])
    elif name == "are_maps":
        told["value"] = maps(told["one"], told["other"])
    elif name == "is_parting":
        told["value"] = parting(told["one"], told["other"])
    elif name == "is_claim":
        told["value"] = told["claim"]
    elif name == "is_certificate":
        told["value"] = certificate_of(told["claim"])
    parameters = [part.strip() for part in wanted.split(",")]
    return {part: told[part] for part in parameters if part and part != "*" and "=" not in part}


def seen(value):
    """What can be seen of a value, as plain values: for all that is passed and told."""
    if isinstance(value, (list, tuple)):
        return [type(value).__name__] + [seen(one) for one in value]
    if isinstance(value, dict):
        return ["dict"] + [(seen(key), seen(value[key])) for key in value]
    if isinstance(value, Store):
        return ["store", schema_text(value.schema), value.rows()]
    if isinstance(value, Schema):
        return ["schema", schema_text(value)]
    if isinstance(value, Walk):
        return ["walk", schema_text(value.schema), walk_text(value)]
    if isinstance(value, Plan):
        return ["plan", schema_text(value.schema), value.words()]
    if isinstance(value, Sizes):
        return ["sizes"] + [(at, value[at[0], at[1]]) for at in value.names()]
    if isinstance(value, Sum):
        return ["sum", value.products()]
    if isinstance(value, Places):
        return ["places", value.rows()]
    if isinstance(value, Answers):
        return ["answers", value.label, value.at_place, value.link_name, seen(value.times), seen(value.new), seen(value.behind)]
    if isinstance(value, Question):
        return ["question", repr(value), value.asked_number, value.brought, value.brought_lists, value.behind]
    if isinstance(value, Session):
        shown = [value.shown(*at) for at in value.objects()] + value.changed() if isinstance(value, Editor) else []
        return {"kept": value.objects(), "lists": value.lists(), "log": [repr(one) for one in value.log()], "store": value.store.rows(),
                "plan": value.plan.words(), "shown": shown}
    if isinstance(value, Desk):
        return ["desk", value.log(), [(name, seen(value.named(name))) for name in value.names()]]
    return repr(value) if not callable(value) else "function"


def told_by(function, /, *arguments, **named):
    found = function(*arguments, **named)
    return list(found) if isinstance(found, types.GeneratorType) else found


def spoil(value):
    """Changes all lists and dicts within the value, and stores, plans and sizes."""
    if isinstance(value, (list, tuple)):
        for one in value:
            spoil(one)
    if isinstance(value, dict):
        for key in list(value):
            spoil(value[key])
    if isinstance(value, (list, dict)):
        value.clear()
    if isinstance(value, Store):
        for kind in value.schema.kinds():
            value[kind, 999] = {link: None for link in value.schema.links_from(kind) if not value.schema.is_list(link)}
    if isinstance(value, Plan):
        for link in value.schema.links():
            value[link] = "late"


class Functions(unittest.TestCase):
    def rows(self):
        for file in FUNCTIONS:
            module = importlib.import_module(f"fetchwalks.{file}")
            for name, wanted in FUNCTIONS[file].items():
                yield name, getattr(module, name), wanted

    def test_by_position_and_by_name(self):
        for name, ask, wanted in self.rows():
            first = told_by(ask, *arguments_of(name, wanted).values())
            second = told_by(ask, **dict(reversed(arguments_of(name, wanted).items())))
            self.assertEqual(seen(first), seen(second), name)

    def test_arguments_stay_unchanged(self):
        for name, ask, wanted in self.rows():
            passed = arguments_of(name, wanted)
            before = seen(passed)
            told_by(ask, **passed)
            self.assertEqual(seen(passed), before, name)

    def test_what_was_told_can_be_changed(self):
        changed = 0
        for name, ask, wanted in self.rows():
            passed = arguments_of(name, wanted)
            told = told_by(ask, **passed)
            before, inputs = seen(told), seen(passed)
            if name not in ("is_claim", "tried_words", "tried_changes"):
                spoil(told)
            changed += seen(told) != before
            self.assertEqual(seen(passed), inputs, name)
            self.assertEqual(seen(told_by(ask, **passed)), before, name)
        self.assertGreater(changed, 20)

    def test_asked_again(self):
        for name, ask, wanted in self.rows():
            passed = arguments_of(name, wanted)
            self.assertEqual(seen(told_by(ask, **passed)), seen(told_by(ask, **passed)), name)

    def test_wrong_parameters_of_the_common_kinds(self):
        common = {"schema": "InvalidSchema", "store": "InvalidStore", "walk": "NoWalk", "plan": "InvalidPlan", "sizes": "InvalidSizes"}
        for name, ask, wanted in self.rows():
            for parameter, error in common.items():
                passed = arguments_of(name, wanted)
                if parameter in passed:
                    for value in ODD:
                        with self.assertRaises(getattr(errors, error)) as caught:
                            told_by(ask, **{**passed, parameter: value})
                        self.assertEqual(vars(caught.exception), {"value": value})

    def test_other_walks_and_sums(self):
        for name, ask, wanted in self.rows():
            for parameter in ("one", "other"):
                passed = arguments_of(name, wanted)
                if isinstance(passed.get(parameter), (Walk, Sum)):
                    error = errors.NoWalk if isinstance(passed[parameter], Walk) else errors.InvalidSum
                    for value in ODD:
                        with self.assertRaises(error) as caught:
                            told_by(ask, **{**passed, parameter: value})
                        self.assertEqual(vars(caught.exception), {"value": value})


def methods():
    """Tuples (what makes an object, the name of a method, its arguments, whether it changes the object)."""
    walk, store, plan = shop_walk(DEEP), shop_store(), Plan.of(shop_schema(), place="along")
    sizes = Sizes(walk)
    n = Sum.size("find", "o")
    rows = [(shop_schema, name, {}) for name in ("kinds", "fields", "flags", "links")]
    rows += [(shop_schema, name, {"link": "orders"}) for name in ("kind_of", "target_of", "back_of", "is_list", "is_single")]
    rows += [(shop_schema, name, {"kind": "order"}) for name in ("links_from", "flags_of")]
    rows += [(shop_store, "ids", {"kind": "order"}), (shop_store, "members", {"link": "orders", "number": 1}), (shop_store, "rows", {}),
             (shop_store, "copy", {})]
    rows += [(lambda: walk, name, {}) for name in ("finds", "written_out", "spots", "loops")]
    rows += [(lambda: walk, name, {"spot": (0, 0, 0)}) for name in ("kind_of", "route", "owner_of")]
    rows += [(lambda: walk, name, {"path": (0, 0, 0)}) for name in ("statement", "without")]
    rows += [(plan.copy, name, {}) for name in ("words", "copy")]
    rows += [(shop_session, name, {"walk": walk, "roots": {"o": [2]}}) for name in ("run", "walked")]
    rows += [(shop_session, name, {}) for name in ("log", "objects", "lists", "by_label", "by_link", "copy")]
    rows += [(shop_session, "keeps", {"kind": "order", "number": 1}), (shop_session, "keeps_list", {"link": "orders", "number": 1})]
    rows += [(shop_session, "take_plan", {"plan": plan})]
    rows += [(lambda: touched_places(walk), "rows", {}), (lambda: touched_places(walk), "of_find", {"name": "o"}),
             (lambda: touched_places(walk), "ending", {"link": "buyer"})]
    rows += [(lambda: touched_places(walk), "below", {"place": ("o", "buyer")}),
             (lambda: touched_places(walk), "is_part_of", {"other": touched_places(walk)})]
    rows += [(sizes.copy, name, {}) for name in ("names", "copy")] + [(sizes.copy, "fault", {"store": store, "roots": {"o": [1]}})]
    rows += [(lambda: n * n - 1, name, {}) for name in ("products", "shifted")] + [(lambda: n - 1, "at_most", {"other": n})]
    rows += [(shop_editor, "change", {"kind": "order", "number": 2, "name": "buyer", "value": None}),
             (shop_editor, "shown", {"kind": "order", "number": 1})]
    rows += [(shop_editor, "members_shown", {"link": "orders", "number": 1})] + [(shop_editor, name, {}) for name in ("changed", "undo",
            "save", "copy")]
    rows += [(shop_desk, "do", {"command": "places w"}), (shop_desk, "do", {"command": "drop p"}), (shop_desk, "named", {"name": "t"})]
    rows += [(shop_desk, name, {}) for name in ("undo", "names", "log", "do_all")]
    return rows


def shop_session():
    session = Session(shop_store(), Plan.of(shop_schema(), place="along"))
    session.run(shop_walk(DEEP), {"o": [1]})
    return session


CHANGING = ("run", "walked", "take_plan", "change", "undo", "save", "do")


class Methods(unittest.TestCase):
    def test_all_that_are_listed(self):
        wanted = {name for rows in CLASSES.values() for name, told in rows.items() if told is not None and not name.startswith("__")}
        self.assertEqual(wanted - {name for _, name, _ in methods()} - {"trial"}, set())

    def test_by_position_and_by_name(self):
        for make, name, passed in methods():
            first, second = make(), make()
            one = seen(told_by(getattr(first, name), *passed.values()))
            other = seen(told_by(getattr(second, name), **dict(reversed(passed.items()))))
            self.assertEqual((one, seen(first)), (other, seen(second)), name)

    def test_arguments_and_objects_stay_unchanged(self):
        for make, name, passed in methods():
            thing = make()
            before, inputs = seen(thing), seen(passed)
            told = told_by(getattr(thing, name), **passed)
            self.assertEqual(seen(passed), inputs, name)
            if name not in CHANGING:
                self.assertEqual(seen(thing), before, name)
                answer = seen(told)
                spoil(told)
                self.assertEqual((seen(thing), seen(told_by(getattr(thing, name), **passed))), (before, answer), name)


class Comparisons(unittest.TestCase):
    """Objects are equal to those with equal parts, made anew, and not to values of another kind."""

    def pairs(self):
        walk, plan = shop_walk(DEEP), Plan.of(shop_schema(), place="along", buyer="ahead")
        log = questions(shop_store(), plan, walk, {"o": [1]})
        late = questions(shop_store(), Plan(shop_schema()), walk, {"o": [1]})
        rows = [
            (shop_schema, Schema(["order", "customer", "shop"], {})), (shop_store, Store(shop_schema())),
            (lambda: shop_walk(DEEP), shop_walk(FLAT)),
            (lambda: Plan.of(shop_schema(), place="along"), Plan(shop_schema())), (lambda: touched_places(shop_walk(DEEP)), Places(walk)),
            (lambda: Sizes(shop_walk(DEEP)), Sizes.of(walk, ("find", "o", 2))),
            (lambda: most(shop_walk(DEEP), Plan(shop_schema())), Sum(7)),
            (lambda: answer_classes(shop_walk(DEEP), Plan(shop_schema()))[1], answer_classes(walk, Plan(shop_schema()))[2]),
        ]
        for told in (log, late):
            for position in range(len(told)):
                other = told[position - 1]
                rows.append((lambda told=told, position=position: copy.copy(told[position]), other))
        return rows

    def test_equal_and_not(self):
        for make, other in self.pairs():
            one, twin = make(), make()
            self.assertTrue(one == twin)
            self.assertFalse(one != twin)
            self.assertFalse(one == other)
            for value in ODD + [seen(one), make, type(one)] + [there() for there, _ in self.pairs() if type(there()) is not type(one)]:
                self.assertFalse(one == value)
                self.assertFalse(value == one)
                self.assertTrue(one != value)


class Program(unittest.TestCase):
    """One schema, and what all stages tell of the same walks, plans, sizes and stores."""

    def given(self, seed, many):
        chance = random.Random(seed)
        for _ in range(many):
            schema = chance_schema(chance)
            finds = chance_finds(chance)
            one, other = [chance_walk(chance, schema, finds, True)[0] for _ in range(2)]
            yield chance, schema, one, other

    def test_numbers_runs_papers_and_desks(self):
        for chance, schema, walk, _ in self.given(101, 120):
            plan, sizes = chance_plan(chance, schema), chance_sizes(chance, walk)
            asked, kept = most(walk, plan)(sizes), most_kept(walk, plan)(sizes)
            self.assertEqual(asked, len(walk.finds()) + self.behind(walk, plan, sizes))
            for word, number in (("most", asked), ("keeps", kept)):
                self.assertTrue(is_certificate((word, walk, plan, sizes, number), certificate_of((word, walk, plan, sizes, number))))
            growing = first_growing(walk, plan)
            self.assertEqual(certificate_of(("grows", walk, plan)) is None, growing is None)
            self.assertEqual(bound(walk, plan), len(answer_classes(walk, plan)) if growing is None else None)
            desk = self.desk(schema, walk, plan)
            told = "".join([f" {label}/{name}={sizes[label, name]}" for label, name in sizes.names()])
            self.assertEqual(desk.do("most w p" + told), str(asked))
            self.assertEqual(desk.do("places w"), " ".join([route_text(place) for place in touched_places(walk).rows()]))
            if kept > 60:
                continue
            store, roots = free_store(walk, plan, sizes)
            self.assertEqual([asked_and_kept(walk, plan, store, roots), len(store)], [(asked, kept), kept])
            session = Session(store, plan)
            self.assertEqual(session.run(walk, roots), list(touches(walk, store, roots)))
            self.assertEqual([len(session), len(session.objects())], [asked, kept])
            desk.do("store free s")
            self.fill(desk, store)
            told = " ".join([f"{name}={','.join([str(number) for number in roots[name]])}" for name in roots])
            self.assertEqual(desk.do(f"asks w p free {told}"), str(asked))

    def behind(self, walk, plan, sizes):
        """The questions that are not those of finds themselves."""
        by_link = most_by_link(walk, plan)
        return sum([total(sizes) for total in by_link.values()])

    def desk(self, schema, walk, plan):
        desk = Desk()
        desk.do("schema s " + schema_text(schema)[:-1].replace("\n", " | "))
        desk.do("walk w s " + walk_text(walk)[:-1].replace("\n", " | "))
        desk.do("plan p s" + (" " + plan_text(plan)[:-1].replace("\n", " | ") if len(plan) else ""))
        self.assertEqual([desk.named("s"), desk.named("w"), desk.named("p")], [schema, walk, plan])
        return desk

    def fill(self, desk, store):
        words = {True: "yes", False: "no"}
        flags = store.schema.flags()
        for empty in (True, False):
            for kind, number, row in store.rows():
                told = [f"{name}={words[row[name]] if name in flags else 'none' if empty or row[name] is None else row[name]}" for name in row]
                desk.do(" ".join([f"row free {kind} {number}"] + told))
        self.assertEqual(desk.named("free"), store)

    def test_no_store_asks_more(self):
        for chance, schema, walk, _ in self.given(102, 200):
            store, plan = chance_store(chance, schema), chance_plan(chance, schema)
            roots = {name: chance.sample(store.ids(kind), 1 if word == "one" else len(store.ids(kind))) for name, kind,
                     word in walk.finds()}
            sizes = least_sizes(walk, store, roots)
            self.assertIsNone(sizes.fault(store, roots))
            asked, kept = asked_and_kept(walk, plan, store, roots)
            self.assertLessEqual(asked, most(walk, plan)(sizes))
            self.assertLessEqual(kept, most_kept(walk, plan)(sizes))
            try:
                early = bounded_plan(walk)
            except LinkRing as error:
                self.assertTrue(set(error.ring) <= set(must(walk)) <= set(used_links(walk)))
                continue
            self.assertLessEqual(asked_and_kept(walk, early, store, roots)[0], bound(walk, early))

    def test_plans_that_are_not_beaten(self):
        for chance, schema, walk, _ in self.given(103, 80):
            sizes = chance_sizes(chance, walk)
            try:
                told = unbeaten(walk, sizes)
            except TooMany:
                continue
            for asked, kept, plan in told:
                self.assertEqual((asked, kept), (most(walk, plan)(sizes), most_kept(walk, plan)(sizes)))
                self.assertTrue(all([link in used_links(walk) for link in schema.links() if link in plan]))
                if kept < 200:
                    store, roots = free_store(walk, plan, sizes)
                    self.assertEqual(asked_and_kept(walk, plan, store, roots), (asked, kept))
            self.assertEqual([row[0] for row in told], sorted([row[0] for row in told]))
            self.assertEqual([row[1] for row in told], sorted([row[1] for row in told], reverse=True))

    def test_pairs_of_walks(self):
        for chance, schema, one, other in self.given(104, 150):
            both, store = one + other, chance_store(chance, schema)
            roots = {name: store.ids(kind)[:1 if word == "one" else 9] for name, kind, word in one.finds()}
            self.assertTrue(is_within(one, both) and covers(both, one) and covers(both, other))
            self.assertEqual(touched(both, store, roots), sorted(set(touched(one, store, roots) + touched(other, store, roots))))
            self.assertEqual(looped_lists(both, store, roots), sorted(set(looped_lists(one, store, roots) + looped_lists(other, store,
                    roots))))
            slim = lean(both)
            self.assertTrue(are_alike(slim, both) and needless(slim) == [])
            self.assertEqual([touched(slim, store, roots), looped_lists(slim, store, roots)],
                             [touched(both, store, roots), looped_lists(both, store, roots)])
            plan, late = chance_plan(chance, schema), Plan(schema)
            self.assertEqual(touched_places(both), touched_places(one) | touched_places(other))
            self.assertEqual(looped_places(both), sorted(set(looped_places(one) + looped_places(other))))
            self.assertEqual(touched_places(slim), touched_places(both))
            self.assertEqual(most(slim, late), most(both, late))
            self.assertTrue(kept_places(one, plan).is_part_of(kept_places(both, plan)))
            self.assertTrue(most(one, plan).at_most(most(both, plan)) and grows_no_faster(most(one, plan), most(both, plan)))
            self.assertTrue(most_kept(other, plan).at_most(most_kept(both, plan)))
            parted = parting(one, other)
            if parted is not None:
                store, roots, (word, name, number) = parted
                ask = touched if word == "object" else looped_lists
                self.assertNotEqual((name, number) in ask(one, store, roots), (name, number) in ask(other, store, roots))
                # A session that has run the one asks for what the other one has more.
                for first, second in ((one, other), (other, one)):
                    session = Session(store)
                    session.run(first, roots)
                    many = len(session)
                    session.run(second, roots)
                    if (name, number) in ask(second, store, roots) and (name, number) not in ask(first, store, roots):
                        self.assertGreater(len(session) - many, len(one.finds()))

    def test_sums_that_grow(self):
        for chance, schema, one, other in self.given(105, 100):
            plans = [chance_plan(chance, schema) for _ in range(2)]
            first, second = most(one, plans[0]), most(one, plans[1])
            if len(first.products()) > 40 or len(leading(first)) > 12 or len(leading(second)) > 12:
                continue
            self.assertEqual(grows_no_faster(first, second), direction(first, second) is None)
            self.assertEqual(grows_no_faster(first, second), shares(first, second) is not None)
            if first.at_most(second):
                self.assertTrue(grows_no_faster(first, second))
            self.assertEqual(first_growing(one, plans[0]) is None, grows_no_faster(first, Sum(1)))
            for place in touched_places(one).rows():
                self.assertTrue(weight(one, place).at_most(most_kept(one, plans[0])))
                self.assertIsNotNone(why_place(one, place))

    def test_editors(self):
        for chance, schema, one, other in self.given(106, 100):
            store, plan = chance_store(chance, schema), chance_plan(chance, schema)
            roots = {name: store.ids(kind)[:1 if word == "one" else 9] for name, kind, word in one.finds()}
            editor, session = Editor(store, plan), Session(store, plan)
            self.assertEqual(editor.run(one, roots), session.run(one, roots))
            self.assertEqual(editor.log(), session.log())
            changes = [(kind, number, flag, chance.random() < 0.5) for kind, number in editor.objects() for flag in schema.flags_of(kind)]
            tried = tried_changes(editor, changes, lambda held: held.run(other, roots))
            self.assertEqual(editor.changed(), [])
            editor += changes
            self.assertEqual(editor.run(other, roots), tried)
            editor.save()
            self.assertEqual([list(touches(other, editor.store, roots)), editor.changed()], [tried, []])

    def test_texts(self):
        for chance, schema, one, other in self.given(107, 100):
            plan = chance_plan(chance, schema)
            self.assertEqual(read_schema(schema_text(schema)), schema)
            for walk in (one, other, one + other, lean(one)):
                again = read_walk(read_schema(schema_text(schema)), walk_text(walk))
                self.assertEqual([again, len(again)], [walk, len(walk)])
                self.assertTrue(are_alike(again, walk))
                self.assertEqual(most(again, read_plan(schema, plan_text(plan))), most(walk, plan))


if __name__ == "__main__":
    unittest.main()
