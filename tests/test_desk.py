"""A desk: its commands, their answers, and how they are taken back."""

import random
import unittest

from chance import chance_finds, chance_plan, chance_roots, chance_schema, chance_sizes, chance_store, chance_walk
from fetchwalks.desk import Desk
from fetchwalks.early import must
from fetchwalks.errors import CommandFailed, InvalidCommand, InvalidId, InvalidRoots, InvalidRow, InvalidSize, InvalidSizeName, InvalidText
from fetchwalks.errors import InvalidWord, NameTaken, NothingToUndo, OtherFinds, OtherSchema, RowRefused, TargetTaken, TooMany, UnknownKind
from fetchwalks.errors import UnknownLink, UnknownName, UnknownTarget, WordRefused
from fetchwalks.free import asked_and_kept
from fetchwalks.numbers import most
from fetchwalks.places import touched_places
from fetchwalks.plans import Plan
from fetchwalks.stores import Store
from fetchwalks.texts import plan_text, schema_text, walk_text
from fetchwalks.walkpairs import is_within
from fetchwalks.walks import Walk
from fetchwalks.words import route_text
from samples import ODD, layered_schema, layered_words, shop_schema, tree_body

SHOP = "schema shop kind customer | kind order | kind shop | field buyer order customer list orders | field place order shop"
DEEP = "walk deep shop find o order many |   go o buyer c |     for c orders p |       go p place s"
FLAT = "walk flat shop find o order many"
ROWS = ["row st customer 1", "row st shop 2", "row st order 1 buyer=1 place=none", "row st order 2 place=2 buyer=1"]


def in_command(text):
    """The text as it stands in a command."""
    return text[:-1].replace("\n", " | ")


def state(desk):
    return ([(name, desk.named(name)) for name in desk.names()], desk.log())


class DeskTest(unittest.TestCase):
    def setUp(self):
        self.desk = Desk()
        self.commands = [SHOP, DEEP, FLAT, "plan late shop", "plan early shop buyer along | place ahead", "store st shop"] + ROWS
        self.assertEqual(self.desk.do_all(*self.commands), ["done"] * len(self.commands))

    def raises(self, error, attributes, ask, *arguments):
        with self.assertRaises(error) as caught:
            ask(*arguments)
        self.assertEqual(vars(caught.exception), attributes)
        return caught.exception.__cause__

    def refused(self, error, attributes, *commands):
        before = state(self.desk)
        for command in commands:
            self.raises(error, attributes, self.desk.do, command)
        self.assertEqual(state(self.desk), before)


class Commands(DeskTest):
    def test_of_the_document(self):
        desk = Desk()
        self.assertEqual(desk.do_all(
            "schema s kind a | kind b | field f a b list g", "walk w s find x a many |   go x f y", "plan p s", "places w",
            "most w p find/x=5 list/g=2"), ["done", "done", "done", "x x.f", "6"])

    def test_things(self):
        self.assertEqual(self.desk.named("shop"), shop_schema())
        self.assertEqual(self.desk.named("flat"), Walk(shop_schema(), [("find", "o", "order", "many", ())]))
        self.assertEqual(self.desk.named("late"), Plan(shop_schema()))
        self.assertEqual(self.desk.named("early"), Plan.of(shop_schema(), buyer="along", place="ahead"))
        wanted = Store(shop_schema())
        wanted += [("customer", 1, {}), ("shop", 2, {}), ("order", 1, {"buyer": 1, "place": None}), ("order", 2, {"buyer": 1, "place": 2})]
        self.assertEqual(self.desk.named("st"), wanted)

    def test_asks(self):
        for command, answer in [("asks deep late st o=1", "4"), ("asks deep late st o=1,2", "4"), ("asks deep late st o=none", "1"),
                                ("asks deep early st o=2", "3"),
                                ("asks flat late st o=2,1", "1")]:
            self.assertEqual(self.desk.do(command), answer)
        self.desk.do("walk two shop find b customer one |   for b orders o | find a order many |   go a place s")
        self.assertEqual([self.desk.do(f"asks two late st {roots}") for roots in ("a=1,2 b=1", "b=1 a=1,2", "b=none a=none",
                "b=none a=2")], ["4", "4", "2", "3"])
        for roots in ("a=1,2 b=1,1", "b=2 a=1", "a=1"):
            self.refused(InvalidRoots, {"find": "b" if "b" in roots else None}, f"asks two late st {roots}")
        self.refused(InvalidRoots, {"find": "o"}, "asks deep late st o=1,1", "asks deep late st o=0", "asks deep late st o=3",
                     "asks deep late st o=1,3")
        self.refused(InvalidRoots, {"find": None}, "asks deep late st x=1", "asks deep late st o=1 x=2", "asks deep late st x=none o=1")

    def test_most(self):
        for sizes, answer in [("", "5"), (" find/o=3 list/orders=4", "19"), (" list/orders=4 find/o=3", "19"), (" find/o=3", "13"),
                              (" list/orders=4", "7")]:
            self.assertEqual(self.desk.do(f"most deep late{sizes}"), answer)
        great = 10 ** 30
        self.assertEqual(self.desk.do(f"most deep late find/o={great} list/orders={great}"), str(1 + 2 * great + great * great))

    def test_must_within_places(self):
        self.assertEqual([self.desk.do(command) for command in ("must deep", "must flat", "within flat deep", "within deep flat",
                                                                "within deep deep", "places deep", "places flat")],
                         ["buyer orders place", "-", "yes", "no", "yes", "o o.buyer o.buyer.orders o.buyer.orders.place o.place", "o"])

    def test_rows_and_words(self):
        self.desk.do("schema flags kind a | field f a a | flag u a | flag v a")
        self.desk.do("store fs flags")
        for command in ("row fs a 1 f=none u=yes v=no", "row fs a 2 v=yes f=1 u=no", "row fs a 1 u=no v=no f=2",
                        "row fs a 3 f=3 u=yes v=yes"):
            self.assertEqual(self.desk.do(command), "done")
        self.assertEqual(self.desk.named("fs").rows(), [
            ("a", 1, {"f": 2, "u": False, "v": False}), ("a", 2, {"f": 1, "u": False, "v": True}),
            ("a", 3, {"f": 3, "u": True, "v": True})])
        for command in ("word late place along", "word late buyer ahead", "word late place late"):
            self.assertEqual(self.desk.do(command), "done")
        self.assertEqual(self.desk.named("late"), Plan.of(shop_schema(), buyer="ahead"))

    def test_drop(self):
        self.assertEqual(self.desk.do("drop shop"), "done")
        # What was made by its schema stays.
        self.assertEqual([self.desk.do("most flat late"), "shop" in self.desk], ["1", False])
        self.refused(UnknownName, {"value": "shop"}, "drop shop", "store x shop", "walk x shop find o order many",
                     "plan x shop buyer along")
        for name in ("st", "late", "flat"):
            self.desk.do(f"drop {name}")
        self.assertEqual(self.desk.do("schema st kind a"), "done")
        self.assertEqual(self.desk.names(), ["deep", "early", "st"])

    def test_a_name_stands_for_one_thing(self):
        for name in ("shop", "deep", "late", "st"):
            self.refused(NameTaken, {"name": name}, f"schema {name} kind a", f"store {name} shop", f"plan {name} shop",
                         f"walk {name} shop find o order one")

    def test_names_that_are_words_of_commands(self):
        for name in ("schema", "walk", "plan", "store", "undo", "none", "yes", "find", "list"):
            self.desk.do(f"schema {name} kind {name} | field f {name} {name} list {name}")
        self.desk.do_all("store row undo", "row row undo 1 f=none", "walk drop undo find none undo many |   for none undo x",
                         "plan word undo", "word word f late")
        self.assertEqual(self.desk.do("asks drop word row none=1"), "2")
        self.assertEqual(self.desk.do("asks drop word row none=none"), "1")
        self.assertEqual(self.desk.do("most drop word list/undo=9 find/none=7"), "8")


class Forms(DeskTest):
    def test_no_commands(self):
        values = ODD + ["undo ", " undo", "undo x", "Undo", "UNDO", "undo\n", "\nundo", "und", "nothing", "", " ", "drop", "drop ",
                        "drop a b", "drop A", " drop shop", "drop  shop",
                        "drop abcdefghi", "drop shop ", b"undo", 5, ["undo"], ("undo",)]
        values += ["schema", "schema s", "schema s ", "schema  s kind a", "schema S kind a", "schema s1 kind a", "Schema s kind a",
                   "schema abcdefghi kind a", "schema s kind a\n",
                   "schema s kind a\nkind b", " schema s kind a"]
        values += ["walk", "walk w", "walk w shop", "walk w shop ", "walk w  shop find o order one", "walk W shop find o order one",
                   "walk w Shop find o order one", "walk w shop\nfind"]
        values += ["plan", "plan p", "plan p ", "plan p shop ", "plan p  shop", "plan P shop", "plan p SHOP buyer along", " plan p shop"]
        values += ["store", "store s", "store s ", "store s shop ", "store s shop x", "store s  shop", "store S shop", "store s Shop"]
        values += ["row", "row st", "row st ", "row st customer", "row st customer ", "row st customer 1 ", "row st customer 01",
                   "row st customer 00", "row st customer -1", "row st customer +1",
                   "row st customer x", "row st Customer 1", "row ST customer 1", "row st  customer 1", "row st customer  1",
                   "row st customer 1  x=1", "row st order 1 buyer",
                   "row st order 1 buyer=", "row st order 1 =1", "row st order 1 buyer=1=1", "row st order 1 buyer=01",
                   "row st order 1 buyer=None", "row st order 1 buyer=-1",
                   "row st order 1 Buyer=1", "row st order 1 buyer=1 buyer=1", "row st order 1 buyer=1 place=none buyer=2",
                   "row st order 1 buyer=1 ", "row st order 1 buyer=1  place=1",
                   "row st order 1 buyer= 1", "row st order 1 buyer =1", "row st order 1 buyer=YES", "row st order 1 buyer=true",
                   "row st order 1 abcdefghi=1", "row st order 1.0 buyer=1",
                   "row st order 1 buyer=1,2", "row st 1 order buyer=1", "row st order 1_0", "row st order"]
        values += ["word", "word late", "word late buyer", "word late buyer ", "word late buyer along x", "word late buyer Along",
                   "word late Buyer along", "word late  buyer along",
                   "word late buyer  along", "word late buyer=along", "word Late buyer along", "word late buyer along ",
                   "word late buyer\nalong", "word late abcdefghi late"]
        values += ["asks", "asks deep late st", "asks deep late st ", "asks deep late o=1", "asks deep late st o", "asks deep late st o=",
                   "asks deep late st o=1,", "asks deep late st o=,1",
                   "asks deep late st o=1, 2", "asks deep late st o=01", "asks deep late st o=1 o=2", "asks deep late st o=none o=none",
                   "asks deep late st o=None", "asks deep late st o=none,1",
                   "asks deep late st O=1", "asks deep late st o=1 ", "asks deep late  st o=1", "asks deep late st  o=1",
                   "asks deep late st o=-1", "asks deep late st o=1;2", "asks deep late st =1",
                   "asks Deep late st o=1", "asks deep late st o=1=2", "asks deep late st o=1,,2", "asks deep late st abcdefghi=1",
                   "asks deep late st o=x"]
        values += ["most", "most deep", "most deep ", "most deep late ", "most deep late find/o", "most deep late find/o=",
                   "most deep late o=1", "most deep late find/o=01", "most deep late find/o=-1",
                   "most deep late find/o=1 find/o=1", "most deep late find/o=1 find/o=2", "most deep late Find/o=1",
                   "most deep late finds/o=1", "most deep late find/O=1", "most deep late find/o=1 ",
                   "most deep late  find/o=1", "most deep late find/o=1  list/orders=2", "most deep late find/o/x=1",
                   "most deep late find=1", "most deep late /o=1", "most deep late find/=1",
                   "most deep late find/o=1=1", "most deep late find/o=x", "most deep late object/o=1", "most Deep late",
                   "most deep late find /o=1", "most deep late find/abcdefghi=1"]
        values += ["must", "must ", "must deep ", "must deep flat", "must Deep", "must  deep", "within", "within deep", "within deep ",
                   "within deep flat ", "within deep  flat", "within deep flat deep",
                   "within Deep flat", "places", "places ", "places deep ", "places deep flat", "places DEEP"]
        before = state(self.desk)
        for value in values:
            self.raises(InvalidCommand, {"value": value}, self.desk.do, value)
            self.raises(CommandFailed, {"position": 1}, self.desk.do_all, "must deep", value)
        self.assertEqual(state(self.desk), before)

    def test_forms_come_first(self):
        self.refused(InvalidCommand, {"value": "schema shop "}, "schema shop ")
        self.refused(InvalidCommand, {"value": "asks x y z x"}, "asks x y z x")
        self.refused(InvalidCommand, {"value": "plan shop x "}, "plan shop x ")

    def test_any_string_is_a_text(self):
        # With what no text has, these are commands with wrong lines.
        for text, line in [(" ", 1), (" kind a", 1), ("x", 1), ("kind a ", 1), ("kind a  | kind b", 1), ("kind a |  kind b", 2),
                           ("kind a | ", 2), ("kind a |kind b", 1), ("kind a | kind b | ", 3),
                           ("kind a | | kind b", 2), (" | kind a", 1), ("kind b | kind a", 2), ("|", 1), ("kind a|kind b", 1)]:
            self.refused(InvalidText, {"line": line}, f"schema x {text}")
        self.refused(InvalidText, {"line": 1}, "plan x shop  ", "plan x shop late", "walk x shop  find o order many", "walk x shop |")
        self.refused(InvalidText, {"line": 2}, "walk x shop find o order many | go o buyer c", "plan x shop place along | buyer along")
        self.refused(InvalidText, {"line": 302}, "walk x shop find o order many" + " |   go o buyer c" * 301)


class Errors(DeskTest):
    def test_names_in_their_sequence(self):
        # A name in use comes first, then names from left to right, then texts and others.
        self.refused(NameTaken, {"name": "deep"}, "schema deep x", "walk deep nothing x", "plan deep deep", "store deep late",
                     "store deep x")
        self.refused(UnknownName, {"value": "x"}, "walk w x x", "plan p x", "plan p x x", "store s x", "row x nothing 0", "word x x x",
                     "drop x", "asks x late st x=1", "most x y find/z=1", "must x",
                     "within x y", "within deep x", "places x", "asks deep x y o=1", "asks deep late x o=1", "most deep x find/z=0")
        for name, others in (("shop", "row word asks most must within places"), ("deep", "row word schema"),
                             ("late", "row asks must within places schema"), ("st", "word asks must within places schema")):
            for other in others.split():
                command = {"row": f"row {name} order 1", "word": f"word {name} buyer late", "asks": f"asks {name} late st o=1",
                           "most": f"most {name} late", "must": f"must {name}",
                           "within": f"within {name} deep", "places": f"places {name}", "schema": f"store fresh {name}"}[other]
                self.refused(UnknownName, {"value": name}, command)
        self.refused(UnknownName, {"value": "st"}, "asks deep st late o=1", "most deep st", "within deep st", "asks flat st st o=1")
        self.refused(UnknownName, {"value": "deep"}, "asks deep late deep o=1")

    def test_of_stores(self):
        self.refused(UnknownKind, {"value": "orders"}, "row st orders 0 x=1")
        self.refused(InvalidId, {"value": 0}, "row st order 0 x=1")
        self.refused(InvalidId, {"value": 10 ** 9 + 1}, f"row st order {10 ** 9 + 1}")
        self.refused(InvalidRow, {"name": None}, "row st order 1", "row st order 1 buyer=1", "row st order 1 buyer=1 place=1 x=1",
                     "row st customer 1 x=none")
        self.refused(InvalidRow, {"name": "buyer"}, "row st order 1 buyer=0 place=yes", "row st order 1 place=0 buyer=yes",
                     f"row st order 1 place=1 buyer={10 ** 30}")
        self.refused(RowRefused, {"kind": "order", "number": 3}, "row st order 3 buyer=9 place=none")
        cause = self.raises(RowRefused, {"kind": "order", "number": 3}, self.desk.do, "row st order 3 buyer=9 place=8")
        self.assertEqual((type(cause), vars(cause)), (UnknownTarget, {"field": "buyer", "number": 9}))
        self.desk.do_all("schema t kind a | field f a a single", "store ts t", "row ts a 1 f=1")
        cause = self.raises(RowRefused, {"kind": "a", "number": 2}, self.desk.do, "row ts a 2 f=1")
        self.assertEqual((type(cause), vars(cause)), (TargetTaken, {"field": "f", "number": 1, "by": 1}))

    def test_of_plans(self):
        self.refused(UnknownLink, {"value": "x"}, "word late x y")
        self.refused(InvalidWord, {"value": "soon"}, "word late buyer soon")
        self.desk.do_all("schema t kind a | field f a a", "plan ring t")
        self.refused(WordRefused, {"link": "f", "word": "along"}, "word ring f along")
        self.refused(InvalidText, {"line": 1}, "plan other t f along")

    def test_of_questions(self):
        self.desk.do_all("schema t kind order", "plan other t", "store empty t", "walk alone t find o order many",
                         "walk p shop find p order many")
        self.refused(InvalidRoots, {"find": "o"}, "asks deep other empty o=1", "asks alone late st o=7")
        self.refused(OtherSchema, {}, "asks deep other st o=1", "asks deep late empty o=none", "asks alone late st o=1",
                     "most deep other", "within deep alone")
        self.refused(InvalidSizeName, {"value": ("find", "x")}, "most deep late find/x=0", "most deep other find/x=0 find/o=0")
        self.refused(InvalidSizeName, {"value": ("list", "buyer")}, "most deep late list/buyer=2")
        self.refused(InvalidSize, {"value": 0}, "most deep other find/o=0 find/x=1")
        self.refused(InvalidSize, {"value": 1}, "most deep other list/orders=1")
        self.refused(InvalidSize, {"value": 10 ** 30 + 1}, f"most deep late list/orders={10 ** 30 + 1}")
        self.refused(OtherFinds, {"one": [("o", "order", "many")], "other": [("p", "order", "many")]}, "within deep p")

    def test_great_numbers(self):
        great = 10 ** 499
        self.refused(InvalidId, {"value": great}, f"row st order {great}")
        self.refused(InvalidRow, {"name": "buyer"}, f"row st order 1 buyer={great} place=none")
        self.refused(InvalidSize, {"value": great}, f"most deep late find/o={great}")
        self.refused(InvalidRoots, {"find": "o"}, f"asks deep late st o={great}", f"asks deep late st o=1,{great}")
        self.refused(InvalidCommand, {"value": f"row st order 0{great}"}, f"row st order 0{great}")

    def test_too_many(self):
        schema = layered_schema()
        plan = Plan.of(schema, **layered_words("along"))
        self.desk.do_all(f"schema t {in_command(schema_text(schema))}", f"plan all t {in_command(plan_text(plan))}", "plan none t")
        for many in (100, 101):
            walk = Walk(schema, [("find", "x", "a", "many", tree_body(many))])
            self.desk.do(f"walk {'great' if many == 101 else 'just'} t {in_command(walk_text(walk))}")
        self.assertEqual([self.desk.do(command) for command in ("most just all find/x=3", "most great none find/x=3")], ["298", "301"])
        self.refused(TooMany, {"what": "places", "limit": 2000}, "most great all find/x=3")


class Undo(DeskTest):
    def test_one_behind_another(self):
        states = [state(Desk())]
        desk = Desk()
        commands = self.commands + ["word early buyer late", "drop deep", "drop st", "schema st kind a", "drop st"]
        for command in commands:
            desk.do(command)
            states.append(state(desk))
        for position, wanted in enumerate(states[-2::-1]):
            if position % 2:
                self.assertEqual(desk.do("undo"), "done")
            else:
                self.assertIsNone(desk.undo())
            self.assertEqual(state(desk), wanted)
        self.raises(NothingToUndo, {}, desk.undo)
        self.raises(NothingToUndo, {}, desk.do, "undo")

    def test_questions_are_not_taken_back(self):
        before = state(self.desk)
        self.desk.do("word late buyer along")
        self.desk.do_all("must deep", "places flat", "most deep late", "within deep flat", "asks deep late st o=1")
        self.assertEqual(len(self.desk.log()), len(self.commands) + 1)
        self.desk.undo()
        self.assertEqual(state(self.desk), before)

    def test_of_rows(self):
        before = self.desk.named("st")
        self.desk.do("row st order 1 buyer=none place=2")
        self.desk.do("row st order 3 buyer=1 place=2")
        self.desk.undo()
        self.assertEqual([len(self.desk.named("st")), self.desk.named("st")["order", 1]], [4, {"buyer": None, "place": 2}])
        self.desk.do("undo")
        self.assertEqual(self.desk.named("st"), before)

    def test_of_drop(self):
        before = self.desk.named("st")
        self.desk.do_all("drop st", "store st shop", "row st shop 9")
        for _ in range(3):
            self.desk.undo()
        self.assertEqual(self.desk.named("st"), before)
        self.desk.do("row st shop 9")
        self.assertEqual(len(self.desk.named("st")), len(before) + 1)

    def test_commands_behind_undo(self):
        self.desk.undo()
        self.desk.do("row st shop 5")
        self.assertEqual(self.desk.log(), self.commands[:-1] + ["row st shop 5"])
        self.assertEqual(self.desk.named("st").ids("shop"), [2, 5])


class Together(DeskTest):
    def test_log_names_len_in(self):
        self.assertEqual(self.desk.log(), self.commands)
        self.assertEqual(self.desk.names(), ["deep", "early", "flat", "late", "shop", "st"])
        self.assertEqual([len(self.desk), "deep" in self.desk, "x" in self.desk, len(Desk()), "deep" in Desk()], [6, True, False, 0, False])
        for value in ODD + [["deep"], b"deep", 1]:
            self.assertIs(value in self.desk, False)
            self.raises(UnknownName, {"value": value}, self.desk.named, value)
        self.assertEqual(self.desk.named(name="shop"), shop_schema())
        self.assertEqual(self.desk.do(command="must flat"), "-")
        self.desk.names().clear()
        self.desk.log().clear()
        self.assertEqual([len(self.desk.names()), len(self.desk.log())], [6, len(self.commands)])

    def test_what_was_told_can_be_changed(self):
        before = state(self.desk)
        store, plan = self.desk.named("st"), self.desk.named("late")
        store["shop", 77] = {}
        plan["buyer"] = "along"
        self.assertEqual(state(self.desk), before)
        self.desk.do("row st shop 78")
        self.desk.do("word late place along")
        self.assertEqual([("shop", 78) in store, plan.words()["place"], ("shop", 77) in self.desk.named("st")], [False, "late", False])

    def test_do_all(self):
        desk = Desk()
        self.assertEqual(desk.do_all(), [])
        self.assertEqual(desk.do_all("schema s kind a", "undo", "schema s kind b", "walk w s find x b one", "places w"),
                         ["done", "done", "done", "done", "x"])
        self.assertEqual(desk.log(), ["schema s kind b", "walk w s find x b one"])

    def test_do_all_that_fails(self):
        before = state(self.desk)
        undone = []
        for commands, position, cause, attributes in [
            (["must x"], 0, UnknownName, {"value": "x"}), (["drop deep", "drop deep"], 1, UnknownName, {"value": "deep"}),
            (["undo", "undo", "row st shop 7", "schema shop x"], 3, NameTaken, {"name": "shop"}), (["undo"] * 11, 10, NothingToUndo, {}),
            (["word late place along", "drop shop", "row st order 1"], 2, InvalidRow, {"name": None}),
            (["must deep", None], 1, InvalidCommand, {"value": None}),
            (["plan x shop", "undo", "word x buyer late"], 2, UnknownName, {"value": "x"}),
        ]:
            found = self.raises(CommandFailed, {"position": position}, self.desk.do_all, *commands)
            self.assertEqual((type(found), vars(found)), (cause, attributes))
            self.assertEqual(state(self.desk), before)
        while self.desk.log():
            undone.append(self.desk.log()[-1])
            self.desk.undo()
        self.assertEqual(undone, self.commands[::-1])

    def test_desks_are_independent(self):
        other = Desk()
        other.do("schema deep kind a")
        self.assertEqual([other.names(), len(self.desk)], [["deep"], 6])

    def test_by_chance(self):
        chance = random.Random(98)
        for _ in range(80):
            schema, finds = chance_schema(chance), chance_finds(chance)
            one, other = [chance_walk(chance, schema, finds, True)[0] for _ in range(2)]
            plan, store, sizes = chance_plan(chance, schema), chance_store(chance, schema), chance_sizes(chance, one)
            roots = chance_roots(chance, store, finds)
            desk = Desk()
            text = plan_text(plan)
            commands = [f"schema s {in_command(schema_text(schema))}", f"walk one s {in_command(walk_text(one))}",
                        f"walk other s {in_command(walk_text(other))}",
                        "plan p s" + (" " + in_command(text) if text else ""), "store st s"]
            self.assertEqual(desk.do_all(*commands), ["done"] * 5)
            self.fill(chance, desk, store)
            self.assertEqual([desk.named("one"), desk.named("p"), desk.named("st")], [one, plan, store])
            told = " ".join([f"{name}={','.join([str(number) for number in roots[name]]) or 'none'}" for name in chance.sample(sorted(roots), len(roots))])
            self.assertEqual(desk.do(f"asks one p st {told}"), str(asked_and_kept(one, plan, store, roots)[0]))
            told = "".join([f" {label}/{name}={sizes[label, name]}" for label, name in chance.sample(sizes.names(), len(sizes.names()))])
            self.assertEqual(desk.do("most one p" + told), str(most(one, plan)(sizes)))
            self.assertEqual(desk.do("must one"), " ".join(must(one)) or "-")
            self.assertEqual(desk.do("within one other"), "yes" if is_within(one, other) else "no")
            self.assertEqual(desk.do("places other"), " ".join([route_text(place) for place in touched_places(other).rows()]))

    def fill(self, chance, desk, store):
        """Rows with empty fields first, then as they are."""
        words = {None: "none", True: "yes", False: "no"}
        rows = store.rows()
        flags = store.schema.flags()
        for kind, number, row in rows:
            desk.do(" ".join([f"row st {kind} {number}"] + [f"{name}={words[row[name]] if name in flags else 'none'}" for name in row]))
        for kind, number, row in chance.sample(rows, len(rows)):
            told = [f"{name}={words[worth] if worth is None or type(worth) is bool else worth}" for name, worth in row.items()]
            desk.do(" ".join([f"row st {kind} {number}"] + chance.sample(told, len(told))))


if __name__ == "__main__":
    unittest.main()
