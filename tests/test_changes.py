"""Editors: changes that are not saved yet, how they are shown, taken back, saved and tried."""

import random
import unittest

from chance import chance_finds, chance_plan, chance_roots, chance_schema, chance_store, chance_walk, told
from fetchwalks.changes import Editor, tried_changes
from fetchwalks.errors import ChangesRefused, InvalidChange, InvalidPlan, InvalidStore, InvalidValue, NothingToUndo, NotKept
from fetchwalks.errors import OtherSchema, RowRefused, SaveRefused, TargetTaken, UnknownLink
from fetchwalks.plans import Plan
from fetchwalks.schemas import Schema
from fetchwalks.sessions import Session
from fetchwalks.stores import Store
from fetchwalks.walks import Walk
from samples import ODD, rich_schema, rich_store, shop_schema


def shop_store():
    """Customers 1 and 2 have the orders 1 and 2, and 3; shop 1 is that of all but order 4, which has no customer."""
    store = Store(shop_schema())
    store += [("customer", 1, {}), ("customer", 2, {}), ("shop", 1, {}), ("shop", 2, {})]
    store += [("order", number, {"buyer": buyer, "place": 1}) for number, buyer in ((1, 1), (2, 1), (3, 2))]
    store["order", 4] = {"buyer": None, "place": None}
    return store


def shop_walk(*body, kind="order"):
    return Walk(shop_schema(), [("find", "o", kind, "many", body)])


LOOP = ("go", "o", "buyer", "c", (("for", "c", "orders", "p", ()),))


def shop_editor(plan=None, roots=(1, 2, 3, 4)):
    """An editor that has run through customers and their orders."""
    editor = Editor(shop_store(), plan)
    editor.run(shop_walk(LOOP), {"o": roots})
    return editor


def full_editor(store, plan=None):
    """An editor that keeps all objects and lists."""
    editor = Editor(store, plan)
    for kind in store.schema.kinds():
        lists = [link for link in store.schema.links_from(kind) if store.schema.is_list(link)]
        body = tuple([("for", "x", link, "y", ()) for link in lists])
        editor.run(Walk(store.schema, [("find", "x", kind, "many", body)]), {"x": store.ids(kind)})
    return editor


def state(editor):
    """All that can be seen of an editor, but for what can be undone."""
    schema = editor.store.schema
    lists = [link for link in schema.links() if schema.is_list(link)]
    members = {(link, number): editor.members_shown(link, number) for link in lists for number in editor.store.ids(schema.kind_of(link))}
    return ([(at, editor.shown(*at)) for at in editor.objects()], members, editor.changed(), editor.store,
            [told(question) for question in editor.log()], editor.lists())


class EditorTest(unittest.TestCase):
    def raises(self, error, attributes, ask, *arguments):
        with self.assertRaises(error) as caught:
            ask(*arguments)
        self.assertEqual(vars(caught.exception), attributes)
        return caught.exception.__cause__

    def cause(self, cause, error, attributes):
        self.assertIs(type(cause), error)
        self.assertEqual(vars(cause), attributes)

    def all_undone(self, editor):
        """The states behind each undo, from now on back; of a copy."""
        twin, states = editor.copy(), []
        while True:
            try:
                twin.undo()
            except NothingToUndo:
                return states
            states.append(state(twin))


def put(editor, changes):
    editor += changes


class Single(EditorTest):
    def test_errors_in_their_sequence(self):
        editor = shop_editor(roots=(1,))
        self.assertEqual(editor.objects(), [("customer", 1), ("order", 1), ("order", 2)])
        for kind, number in [("order", 3), ("shop", 1), ("order", 9), ("orders", 1), (None, None), ("order", True), ("customer", "1"),
                             (["order"], 1),
                             ("order", [1]), ({}, {}), (1, "order"), ("buyer", 1), ("order", 0)]:
            self.raises(NotKept, {"kind": kind, "number": number}, editor.change, kind, number, None, object())
        for name in ODD + ["orders", "order", "Buyer", ("buyer",), ["buyer"], 1]:
            self.raises(UnknownLink, {"value": name}, editor.change, "order", 1, name, object())
        self.raises(UnknownLink, {"value": "buyer"}, editor.change, "customer", 1, "buyer", 1)
        for value in [True, False, 0, -1, 10 ** 9 + 1, "1", [1], (1,), {}, b"1", object(), ("customer", 1)]:
            self.raises(InvalidValue, {"value": value}, editor.change, "order", 1, "buyer", value)
        for value in (2, 9, 10 ** 9):
            self.raises(NotKept, {"kind": "customer", "number": value}, editor.change, "order", 1, "buyer", value)
        self.raises(NotKept, {"kind": "shop", "number": 1}, editor.change, "order", 1, "place", 1)
        self.assertEqual([editor.changed(), state(editor)], [[], state(shop_editor(roots=(1,)))])
        self.raises(NothingToUndo, {}, editor.undo)

    def test_flags(self):
        editor = full_editor(rich_store())
        self.assertIsNone(editor.change(kind="a", number=1, name="u", value=False))
        editor.change("b", 2, "w", True)
        self.assertEqual([editor.shown("a", 1)["u"], editor.shown("b", 2)["w"], editor.changed()],
                         [False, True, [("a", 1, "u"), ("b", 2, "w")]])
        for value in [0, 1, None, "yes", [], (), {}, b"", object()]:
            self.raises(InvalidValue, {"value": value}, editor.change, "a", 1, "u", value)
        self.raises(UnknownLink, {"value": "w"}, editor.change, "a", 1, "w", True)

    def test_fields(self):
        editor = shop_editor()
        editor.change("order", 1, "buyer", 2)
        editor.change("order", 4, "buyer", 2)
        editor.change("order", 2, "buyer", None)
        self.assertEqual([editor.shown("order", number)["buyer"] for number in (1, 2, 3, 4)], [2, None, 2, 2])
        self.assertEqual([editor.members_shown("orders", number) for number in (1, 2)], [[], [1, 3, 4]])
        self.assertEqual(editor.changed(), [("order", 1, "buyer"), ("order", 2, "buyer"), ("order", 4, "buyer")])
        self.assertEqual(editor.store, shop_store())

    def test_changes_that_change_nothing(self):
        editor = shop_editor()
        editor.change("order", 1, "buyer", 1)
        editor.change("order", 4, "buyer", None)
        self.assertEqual([editor.changed(), state(editor)], [[], state(shop_editor())])
        editor.change("order", 1, "buyer", 2)
        editor.change("order", 1, "buyer", 1)
        self.assertEqual([editor.changed(), editor.members_shown("orders", 1)], [[], [1, 2]])
        for _ in range(4):
            editor.undo()
        self.raises(NothingToUndo, {}, editor.undo)

    def test_itself_as_a_target(self):
        editor = full_editor(rich_store())
        editor.change("a", 3, "p", 3)
        self.assertEqual([editor.shown("a", 3)["p"], editor.members_shown("k", 3), editor.members_shown("k", 1)], [3, [3], [1, 2]])

    def test_what_was_told_can_be_changed(self):
        editor = shop_editor()
        editor.change("order", 1, "buyer", 2)
        wanted = state(editor)
        editor.shown("order", 1)["buyer"] = 1
        editor.shown("order", 2)["buyer"] = None
        editor.members_shown("orders", 2).append(9)
        editor.members_shown("orders", 1).clear()
        editor.changed().clear()
        editor.store["customer", 7] = {}
        self.assertEqual(state(editor), wanted)


class Shown(EditorTest):
    def test_shown(self):
        editor = shop_editor(roots=(1,))
        self.assertEqual(list(editor.shown(number=1, kind="order").items()), [("buyer", 1), ("place", 1)])
        for kind, number in [("order", 3), ("shop", 1), (None, None), ("order", True), (["order"], {}), ("orders", 1)]:
            self.raises(NotKept, {"kind": kind, "number": number}, editor.shown, kind, number)

    def test_members_shown(self):
        editor = shop_editor(roots=(1,))
        self.assertEqual(editor.members_shown(number=1, link="orders"), [1, 2])
        for number in [2, 9, 0, True, None, "1", [1], {}]:
            self.assertIsNone(editor.members_shown("orders", number))
        for link in ODD + ["buyer", "place", "order", ["orders"], ("orders",)]:
            self.raises(UnknownLink, {"value": link}, editor.members_shown, link, 1)

    def test_a_kept_list_is_not_that_of_true(self):
        editor = shop_editor()
        self.assertEqual([editor.members_shown("orders", 1), editor.members_shown("orders", True)], [[1, 2], None])

    def test_lists_that_come_behind_a_change(self):
        store = shop_store()
        editor = Editor(store)
        editor.run(shop_walk(), {"o": [1, 3]})
        editor.run(shop_walk(kind="customer"), {"o": [1, 2]})
        editor.change("order", 1, "buyer", 2)
        # No list is kept yet, so there are no members to be seen.
        self.assertEqual([editor.members_shown("orders", number) for number in (1, 2)], [None, None])
        loop = shop_walk(("for", "o", "orders", "p", ()), kind="customer")
        self.assertEqual(editor.run(loop, {"o": [1, 2]})[1:], [((0, 0), 2), ((0,), 2), ((0, 0), 1), ((0, 0), 3)])
        # What an answer brings was not changed: order 2, which nobody had come to.
        self.assertEqual([question.brought for question in editor.log()[-2:]], [[("order", 2)], []])
        self.assertEqual([editor.members_shown("orders", number) for number in (1, 2)], [[2], [1, 3]])

    def test_members_whatever_single_fields_say(self):
        editor = full_editor(rich_store())
        editor.change("a", 2, "g", 1)
        editor.change("a", 3, "g", 1)
        self.assertEqual([editor.members_shown("m", 1), editor.members_shown("m", 2)], [[1, 2, 3], []])
        walk = Walk(rich_schema(), [("find", "x", "b", "one", (("for", "x", "m", "y", ()),))])
        self.assertEqual(editor.run(walk, {"x": [1]}), [((0,), 1), ((0, 0), 1), ((0, 0), 2), ((0, 0), 3)])

    def test_runs(self):
        editor = full_editor(rich_store())
        many = len(editor)
        editor.change("a", 1, "u", False)
        editor.change("a", 2, "u", True)
        editor.change("a", 2, "f", 2)
        walk = Walk(rich_schema(), [("find", "x", "a", "many", (("if", "x", "u",
                                                                 (("go", "x", "f", "y", (("for", "y", "l", "z", ()),)),)),))])
        self.assertEqual(editor.run(walk, {"x": [1, 2]}), [((0,), 1), ((0,), 2), ((0, 0, 0), 2), ((0, 0, 0, 0), 2), ((0, 0, 0, 0), 3)])
        # All is kept, so that only the find is asked.
        self.assertEqual([question.label for question in editor.log()[many:]], ["find"])

    def test_what_is_asked_behind_a_change(self):
        editor = shop_editor(Plan.of(shop_schema(), place="along"), roots=(1, 2))
        self.assertEqual(len(editor), 3)
        walk = shop_walk(("go", "o", "buyer", "c", ()), ("go", "o", "place", "s", ()))
        editor.change("order", 1, "buyer", None)
        editor.change("order", 2, "place", None)
        self.assertEqual(editor.run(walk, {"o": [1, 2, 3]}), [
            ((0,), 1), ((0, 1), 1), ((0,), 2), ((0, 0), 1), ((0,), 3), ((0, 0), 2), ((0, 1), 1)])
        self.assertEqual([(question.label, question.brought) for question in editor.log()[3:]], [
            ("find", [("order", 3)]), ("object", [("customer", 2)])])


class Lists(EditorTest):
    def test_changes_in_sequence(self):
        editor = shop_editor()
        editor += [("order", 1, "buyer", 2), ("order", 1, "buyer", None), ("order", 4, "buyer", 1)]
        self.assertEqual(editor.changed(), [("order", 1, "buyer"), ("order", 4, "buyer")])
        self.assertEqual(editor.members_shown("orders", 1), [2, 4])
        editor += (("order", 1, "buyer", 1),)
        self.assertEqual(editor.members_shown("orders", 1), [1, 2, 4])
        editor.undo()
        self.assertEqual(editor.members_shown("orders", 1), [2, 4])
        editor.undo()
        self.assertEqual(state(editor), state(shop_editor()))

    def test_an_empty_list(self):
        editor = shop_editor()
        editor += []
        editor.undo()
        editor += ()
        editor.undo()
        self.raises(NothingToUndo, {}, editor.undo)

    def test_no_lists(self):
        editor = shop_editor()
        for value in [None, True, 1, "ab", {}, {("order", 1, "buyer", 2): 1}, object(), b"ab"]:
            self.raises(InvalidChange, {"position": None}, put, editor, value)
        good, refused = ("order", 1, "buyer", 2), ("order", 1, "buyer", 9)
        for value in ODD + [list(good), good[:3], good + (1,), "abcd"]:
            self.raises(InvalidChange, {"position": 2}, put, editor, [good, refused, value, None])
            self.raises(InvalidChange, {"position": 0}, put, editor, [value])
        self.assertEqual(state(editor), state(shop_editor()))
        self.raises(NothingToUndo, {}, editor.undo)

    def test_refused(self):
        editor, good = shop_editor(roots=(1,)), ("order", 1, "buyer", None)
        for bad, error, attributes in [
            (("order", 3, "buyer", 1), NotKept, {"kind": "order", "number": 3}),
            (("order", True, "x", 1), NotKept, {"kind": "order", "number": True}),
            (("order", 1, "orders", 1), UnknownLink, {"value": "orders"}), (("order", 1, "buyer", "x"), InvalidValue, {"value": "x"}),
            (("order", 1, "buyer", 2), NotKept, {"kind": "customer", "number": 2}),
            ((None, None, None, None), NotKept, {"kind": None, "number": None}),
        ]:
            for changes, position in (([bad], 0), ([good, good, bad, ("x",) * 4], 2)):
                self.cause(self.raises(ChangesRefused, {"position": position}, put, editor, changes), error, attributes)
        self.assertEqual(state(editor), state(shop_editor(roots=(1,))))
        self.raises(NothingToUndo, {}, editor.undo)
        editor += [good]
        self.assertEqual(editor.changed(), [("order", 1, "buyer")])

    def test_the_list_can_be_changed_later(self):
        editor, changes = shop_editor(), [("order", 1, "buyer", 2), ("order", 2, "buyer", 2)]
        editor += changes
        changes.pop()
        self.assertEqual([len(editor.changed()), len(changes)], [2, 1])
        editor.undo()
        self.assertEqual(editor.changed(), [])


class Undo(EditorTest):
    def test_one_behind_another(self):
        editor = shop_editor()
        states = [state(editor)]
        for change in (("order", 1, "buyer", 2), ("order", 1, "buyer", None), ("order", 3, "buyer", 1), ("order", 3, "buyer", 1)):
            editor.change(*change)
            states.append(state(editor))
        for wanted in states[-2::-1]:
            self.assertIsNone(editor.undo())
            self.assertEqual(state(editor), wanted)
        self.raises(NothingToUndo, {}, editor.undo)

    def test_what_is_kept_stays(self):
        editor = shop_editor(roots=(1,))
        editor.change("order", 1, "buyer", None)
        editor.run(shop_walk(LOOP), {"o": [3]})
        editor.change("order", 1, "buyer", 2)
        self.assertEqual(editor.members_shown("orders", 2), [1, 3])
        kept, log = editor.objects(), len(editor)
        editor.undo()
        editor.undo()
        self.assertEqual([editor.objects(), len(editor), editor.members_shown("orders", 2)], [kept, log, [3]])
        self.raises(NothingToUndo, {}, editor.undo)

    def test_behind_save(self):
        editor = shop_editor()
        editor.change("order", 1, "buyer", 2)
        editor.save()
        self.raises(NothingToUndo, {}, editor.undo)
        editor.change("order", 1, "buyer", None)
        editor.undo()
        self.assertEqual([editor.shown("order", 1)["buyer"], editor.changed()], [2, []])
        self.raises(NothingToUndo, {}, editor.undo)

    def test_by_chance(self):
        chance = random.Random(81)
        for _ in range(60):
            editor = full_editor(chance_store(chance, chance_schema(chance)))
            states = [state(editor)]
            for _ in range(12):
                if chance.random() < 0.3 and len(states) > 1:
                    editor.undo()
                    states.pop()
                elif chance.random() < 0.3:
                    editor += chance_changes(chance, editor, chance.randint(0, 4))
                    states.append(state(editor))
                else:
                    for change in chance_changes(chance, editor, 1):
                        editor.change(*change)
                        states.append(state(editor))
                self.assertEqual(state(editor), states[-1])
            self.assertEqual(self.all_undone(editor), states[-2::-1])


def chance_changes(chance, editor, many):
    """So many right changes, if there is something that can be changed."""
    schema, changes = editor.store.schema, []
    for kind, number in chance.sample(editor.objects() * many, many) if editor.objects() else []:
        names = schema.flags_of(kind) + [link for link in schema.links_from(kind) if not schema.is_list(link)]
        name = chance.choice(names)
        if name in schema.flags():
            changes.append((kind, number, name, chance.random() < 0.5))
        else:
            targets = [end for other, end in editor.objects() if other == schema.target_of(name)]
            changes.append((kind, number, name, chance.choice(targets + [None])))
    return changes


class Saved(EditorTest):
    def test_written_into_the_own_store_alone(self):
        store = shop_store()
        editor = Editor(store)
        editor.run(shop_walk(LOOP), {"o": [1, 2, 3]})
        twin = editor.copy()
        editor.change("order", 1, "buyer", 2)
        editor += [("order", 2, "buyer", None), ("order", 2, "place", None)]
        kept, log = editor.objects(), [told(question) for question in editor.log()]
        self.assertIsNone(editor.save())
        self.assertEqual([store, twin.store], [shop_store(), shop_store()])
        wanted = shop_store()
        wanted += [("order", 1, {"buyer": 2, "place": 1}), ("order", 2, {"buyer": None, "place": None})]
        self.assertEqual([editor.store, editor.changed(), editor.objects()], [wanted, [], kept])
        self.assertEqual([told(question) for question in editor.log()], log)
        self.assertEqual([editor.store.members("orders", 2), editor.members_shown("orders", 2), editor.shown("order", 2)],
                         [[1, 3], [1, 3], {"buyer": None, "place": None}])
        editor.save()
        self.assertEqual(editor.store, wanted)

    def test_objects_that_come_behind_save(self):
        editor = Editor(shop_store())
        editor.run(shop_walk(("go", "o", "buyer", "c", ())), {"o": [1, 3]})
        editor.change("order", 1, "buyer", 2)
        editor.save()
        loop = shop_walk(("for", "o", "orders", "p", ()), kind="customer")
        editor.run(loop, {"o": [1, 2]})
        self.assertEqual([question.brought for question in editor.log()[-2:]], [[("order", 2)], []])
        self.assertEqual([editor.members_shown("orders", number) for number in (1, 2)], [[2], [1, 3]])

    def test_refused(self):
        editor = full_editor(rich_store())
        editor += [("a", 3, "g", 1), ("a", 2, "q", None), ("a", 3, "q", 1), ("a", 1, "q", 1)]
        before, undone = state(editor), self.all_undone(editor)
        cause = self.raises(SaveRefused, {"first": 1, "second": 3}, editor.save)
        self.cause(cause, TargetTaken, {"field": "g", "number": 1, "by": 3})
        self.assertEqual([state(editor), self.all_undone(editor), editor.store], [before, undone, rich_store()])
        editor.change("a", 1, "g", 2)
        # g is right again; q is the next one.
        self.cause(self.raises(SaveRefused, {"first": 1, "second": 3}, editor.save), TargetTaken, {"field": "q", "number": 1, "by": 3})
        editor.change("a", 1, "q", 2)
        editor.save()
        self.assertEqual(editor.changed(), [])
        self.assertEqual([editor.store["a", number]["q"] for number in (1, 2, 3)], [2, None, 1])

    def test_the_least_target_and_the_least_two(self):
        editor = full_editor(rich_store())
        editor += [("a", number, "h", 2) for number in (3, 2, 1)] + [("a", number, "g", 2) for number in (2, 3)] + [("a", 1, "g", 1)]
        self.cause(self.raises(SaveRefused, {"first": 2, "second": 3}, editor.save), TargetTaken, {"field": "g", "number": 2, "by": 3})
        editor.change("a", 3, "g", None)
        self.cause(self.raises(SaveRefused, {"first": 1, "second": 2}, editor.save), TargetTaken, {"field": "h", "number": 2, "by": 2})
        editor.change("a", 3, "h", 1)
        editor.change("a", 2, "h", 1)
        self.cause(self.raises(SaveRefused, {"first": 2, "second": 3}, editor.save), TargetTaken, {"field": "h", "number": 1, "by": 3})

    def test_objects_that_are_not_kept(self):
        editor = Editor(rich_store())
        editor.run(Walk(rich_schema(), [("find", "x", "a", "many", ()), ("find", "y", "b", "many", ())]), {"x": [2], "y": [1, 2]})
        editor.change("a", 2, "g", 1)
        self.cause(self.raises(SaveRefused, {"first": 1, "second": 2}, editor.save), TargetTaken, {"field": "g", "number": 1, "by": 2})
        editor.change("a", 2, "g", 2)
        self.cause(self.raises(SaveRefused, {"first": 2, "second": 3}, editor.save), TargetTaken, {"field": "g", "number": 2, "by": 3})

    def test_swapped(self):
        editor = full_editor(rich_store())
        editor += [("a", 1, "g", 2), ("a", 3, "g", 1)]
        editor.save()
        self.assertEqual([editor.store["a", 1]["g"], editor.store["a", 3]["g"], editor.store.members("m", 1)], [2, 1, [3]])

    def test_as_if_saved(self):
        chance = random.Random(82)
        saved = 0
        for _ in range(150):
            schema = chance_schema(chance)
            store, finds = chance_store(chance, schema), chance_finds(chance)
            editor = Editor(store, chance_plan(chance, schema))
            walks = [chance_walk(chance, schema, finds, True)[0] for _ in range(3)]
            roots = chance_roots(chance, store, finds)
            editor.run(walks[0], roots)
            editor += chance_changes(chance, editor, chance.randint(0, 6))
            walk = chance.choice(walks)
            touches = editor.copy().run(walk, roots)
            changed = editor.store
            rows = [(kind, number, editor.shown(kind, number)) for kind, number in editor.objects()]
            try:
                changed += rows
            except RowRefused:
                with self.assertRaises(SaveRefused):
                    editor.save()
                continue
            saved += 1
            self.assertEqual(touches, Session(changed).run(walk, roots))
            editor.save()
            self.assertEqual([editor.store, editor.run(walk, roots)], [changed, touches])
        self.assertGreater(saved, 80)


class Trials(EditorTest):
    def test_all_is_as_before(self):
        editor = shop_editor(roots=(1,))
        editor.change("order", 1, "buyer", None)
        before, undone = state(editor)[:4], self.all_undone(editor)
        with editor.trial() as held:
            self.assertIs(held, editor)
            held.change("order", 2, "buyer", None)
            held += [("order", 1, "buyer", 1)]
            self.assertEqual(editor.members_shown("orders", 1), [1])
        self.assertEqual([state(editor)[:4], self.all_undone(editor)], [before, undone])

    def test_undo_of_changes_made_ahead(self):
        editor = shop_editor()
        editor.change("order", 1, "buyer", None)
        editor += [("order", 2, "buyer", None)]
        before, undone = state(editor), self.all_undone(editor)
        with editor.trial():
            editor.undo()
            editor.undo()
            self.assertEqual(editor.changed(), [])
            self.raises(NothingToUndo, {}, editor.undo)
            editor.change("order", 3, "buyer", None)
        self.assertEqual([state(editor), self.all_undone(editor)], [before, undone])

    def test_runs_within(self):
        editor = shop_editor(roots=(1,))
        with editor.trial():
            editor.change("order", 1, "buyer", None)
            editor.run(shop_walk(LOOP), {"o": [3]})
            editor.change("order", 1, "buyer", 2)
        self.assertEqual([editor.changed(), len(editor)], [[], 6])
        self.assertEqual([editor.keeps("customer", 2), editor.members_shown("orders", 2), editor.members_shown("orders", 1)],
                         [True, [3], [1, 2]])

    def test_errors_within(self):
        editor = shop_editor()
        before = state(editor)
        for error in (ZeroDivisionError, KeyError):
            with self.assertRaises(error):
                with editor.trial():
                    editor.change("order", 1, "buyer", None)
                    raise error("x")
            self.assertEqual(state(editor), before)
        self.raises(NothingToUndo, {}, editor.undo)

    def test_within_one_another(self):
        editor = shop_editor()
        states = [state(editor)]
        with editor.trial():
            editor.change("order", 1, "buyer", None)
            states.append(state(editor))
            with editor.trial() as held:
                held.undo()
                held.change("order", 2, "buyer", None)
            self.assertEqual(state(editor), states[1])
            again = editor.trial()
            with again:
                editor.change("order", 3, "buyer", None)
                inner = state(editor)
                with again:
                    editor.undo()
                    editor.undo()
                self.assertEqual(state(editor), inner)
            self.assertEqual(state(editor), states[1])
            editor.undo()
            self.raises(NothingToUndo, {}, editor.undo)
        self.assertEqual(state(editor), states[0])

    def test_begun_later(self):
        editor = shop_editor()
        trial = editor.trial()
        editor.change("order", 1, "buyer", None)
        with trial:
            editor.undo()
        self.assertEqual(editor.changed(), [("order", 1, "buyer")])

    def test_tried_changes(self):
        editor = shop_editor()
        before = state(editor)
        changes = [("order", 1, "buyer", 2), ("order", 4, "buyer", 2)]
        self.assertEqual(tried_changes(editor=editor, changes=changes, ask=lambda held: held.members_shown("orders", 2)), [1, 3, 4])
        self.assertIs(tried_changes(editor, [], lambda held: held), editor)
        self.assertEqual([state(editor), len(changes)], [before, 2])
        self.raises(InvalidChange, {"position": None}, tried_changes, editor, None, None)
        self.raises(InvalidChange, {"position": 1}, tried_changes, editor, changes[:1] + [1], None)
        cause = self.raises(ChangesRefused, {"position": 1}, tried_changes, editor, changes[:1] + [("order", 1, "place", 2)], None)
        self.cause(cause, NotKept, {"kind": "shop", "number": 2})
        self.raises(SaveRefused, {"first": 1, "second": 2}, tried_changes, editor, changes, refuse)
        self.raises(NothingToUndo, {}, editor.undo)
        self.assertEqual(state(editor), before)
        # Trials can stand within one another.
        inner = tried_changes(editor, changes, lambda held: tried_changes(held, [("order", 3, "buyer", None)],
                lambda one: one.members_shown("orders", 2)))
        self.assertEqual([inner, state(editor)], [[1, 4], before])


def refuse(editor):
    raise SaveRefused(1, 2)


class Sessions(EditorTest):
    """An Editor is a Session."""

    def test_is_a_session(self):
        self.assertTrue(issubclass(Editor, Session))
        editor, session = shop_editor(), Session(shop_store())
        session.run(shop_walk(LOOP), {"o": [1, 2, 3, 4]})
        for ask in (Session.objects, Session.lists, Session.by_label, Session.by_link, len, lambda one: one.store, lambda one: one.plan,
                    lambda one: [told(question) for question in one.log()],
                    lambda one: (one.keeps("order", 1), one.keeps_list("orders", 3))):
            self.assertEqual(ask(editor), ask(session))

    def test_errors(self):
        for value in ODD:
            self.raises(InvalidStore, {"value": value}, Editor, value, value)
            if value is not None:
                self.raises(InvalidPlan, {"value": value}, Editor, shop_store(), value)
        self.raises(OtherSchema, {}, Editor, shop_store(), Plan(rich_schema()))
        self.assertEqual(Editor(plan=Plan.of(shop_schema(), buyer="along"), store=shop_store()).plan["buyer"], "along")

    def test_plans(self):
        editor = shop_editor(roots=(1,))
        editor.change("order", 1, "buyer", None)
        editor.plan = Plan.of(shop_schema(), buyer="along", place="ahead")
        editor.run(shop_walk(("go", "o", "buyer", "c", ())), {"o": [1, 3]})
        self.assertEqual([(question.label, question.brought) for question in editor.log()[3:]],
                         [("find", [("customer", 2), ("order", 3)]), ("ahead", [("shop", 1)])])
        editor.take_plan(Plan(shop_schema()))
        self.assertEqual([len(editor.plan), editor.changed()], [0, [("order", 1, "buyer")]])
        self.raises(InvalidPlan, {"value": None}, editor.take_plan, None)

    def test_copies(self):
        editor = shop_editor()
        editor.change("order", 1, "buyer", 2)
        editor += [("order", 3, "buyer", None)]
        twin = editor.copy()
        self.assertIs(type(twin), Editor)
        self.assertEqual([state(twin), self.all_undone(twin)], [state(editor), self.all_undone(editor)])
        twin.undo()
        twin.undo()
        twin.change("order", 2, "buyer", None)
        twin.run(shop_walk(("go", "o", "place", "s", ())), {"o": [1]})
        self.assertEqual([editor.changed(), twin.changed()], [[("order", 1, "buyer"), ("order", 3, "buyer")], [("order", 2, "buyer")]])
        editor.save()
        self.assertEqual([twin.store, twin.members_shown("orders", 1), editor.members_shown("orders", 1)], [shop_store(), [1], [2]])
        self.assertEqual([editor.keeps("shop", 1), twin.keeps("shop", 1)], [False, True])
        twin.undo()
        self.raises(NothingToUndo, {}, twin.undo)
        self.raises(NothingToUndo, {}, editor.undo)

    def test_generators_given_up(self):
        editor = shop_editor(roots=(1,))
        editor.change("order", 1, "buyer", None)
        many = len(editor)
        walked = editor.walked(shop_walk(LOOP), {"o": [1, 3, 4]})
        self.assertEqual([next(walked), next(walked)], [((0,), 1), ((0,), 3)])
        walked.close()
        self.assertEqual([len(editor), editor.keeps("order", 4), editor.keeps("customer", 2)], [many + 1, True, False])
        walked = editor.walked(walk=shop_walk(LOOP), roots={"o": [3]})
        self.assertEqual(list(walked), [((0,), 3), ((0, 0), 2), ((0, 0, 0), 3)])

    def test_plain_sessions_show_their_store(self):
        session = Session(shop_store())
        self.assertFalse(hasattr(session, "change"))
        copied = session.copy()
        self.assertIs(type(copied), Session)


class Slow(EditorTest):
    """Against rows that the test changes for itself."""

    def test_by_chance(self):
        chance = random.Random(83)
        for _ in range(150):
            schema = chance_schema(chance)
            store, finds = chance_store(chance, schema), chance_finds(chance)
            editor = Editor(store, chance_plan(chance, schema))
            rows = {(kind, number): row for kind, number, row in store.rows()}
            for _ in range(4):
                walk, _, _ = chance_walk(chance, schema, finds, True)
                roots = chance_roots(chance, store, finds)
                self.assertEqual(editor.run(walk, roots), slow_touches(schema, rows, walk, roots))
                changes = chance_changes(chance, editor, chance.randint(0, 5))
                editor += changes
                for kind, number, name, value in changes:
                    rows[kind, number] = {**rows[kind, number], name: value}
                for at in editor.objects():
                    self.assertEqual(editor.shown(*at), rows[at])
                stored = {(kind, number): row for kind, number, row in store.rows()}
                wanted = sorted([at + (name,) for at in rows for name in rows[at] if rows[at][name] != stored[at][name]])
                self.assertEqual(editor.changed(), wanted)
                for link, number in editor.lists():
                    field = schema.back_of(link)
                    members = [at[1] for at in sorted(rows) if at[0] == schema.target_of(link) and rows[at][field] == number]
                    self.assertEqual(editor.members_shown(link, number), members)


def slow_touches(schema, rows, walk, roots):
    """What a plain run touches, by rows that single fields do not bind."""
    found = []

    def do(path, seen):
        for step in sorted([other for other in walk.paths() if len(other) == len(path) + 1 and other[:-1] == path]):
            head = walk.statement(step)
            kind, number = seen[head[1]]
            if head[0] == "if":
                if rows[kind, number][head[2]]:
                    do(step, seen)
                continue
            target = schema.target_of(head[2])
            if head[0] == "go":
                ends = [rows[kind, number][head[2]]]
            else:
                ends = [at[1] for at in sorted(rows) if at[0] == target and rows[at][schema.back_of(head[2])] == number]
            for end in ends:
                if end is not None:
                    found.append((step, end))
                    do(step, {**seen, head[3]: (target, end)})

    for position, (name, kind, _) in enumerate(walk.finds()):
        for number in roots[name]:
            found.append(((position,), number))
            do((position,), {name: (kind, number)})
    return found


class Great(EditorTest):
    def test_a_great_store(self):
        schema = Schema(["a", "b"], {"f": ("a", "b", "l", False), "g": ("a", "b", None, True)}, {"u": "a"})
        store = Store(schema)
        store += [("b", number, {}) for number in range(1, 3)]
        for first in range(1, 1998, 400):
            store += [("a", number, {"f": 1, "g": None, "u": False}) for number in range(first, min(1999, first + 400))]
        editor = Editor(store)
        walk = Walk(schema, [("find", "x", "b", "many", (("for", "x", "l", "y", ()),))])
        editor.run(walk, {"x": [1, 2]})
        for number in range(1, 200):
            editor.change("a", number, "f", 2)
        for first in range(200, 1600, 400):
            editor += [("a", number, "f", 2) for number in range(first, first + 400)]
        self.assertEqual([len(editor.members_shown("l", 1)), len(editor.members_shown("l", 2)), len(editor.changed())], [199, 1799, 1799])
        self.assertEqual(len(editor.run(walk, {"x": [1, 2]})), 2000)
        editor.save()
        self.assertEqual([len(editor.store.members("l", 2)), editor.changed()], [1799, []])


if __name__ == "__main__":
    unittest.main()
