"""Texts of schemas, walks and plans, and their wrong lines."""

import random
import unittest

from chance import chance_finds, chance_plan, chance_schema, chance_walk, wide_schema
from fetchwalks.errors import FetchError, InvalidPlan, InvalidSchema, InvalidText, InvalidWalk, NoWalk, TooMany, WordRefused
from fetchwalks.plans import Plan
from fetchwalks.schemas import Schema
from fetchwalks.texts import plan_text, read_plan, read_schema, read_walk, schema_text, walk_text
from fetchwalks.walks import Walk
from samples import ODD, rich_schema, shop_schema

SHOP = """kind customer
kind order
kind shop
field buyer order customer list orders
field place order shop
"""

RICH = """kind a
kind b
field f a b list l
field g a b list m single
field h a b single
field i b a
field p a a list k
field q a a list n single
flag u a
flag v a
flag w b
"""

WALK = """block t a x
  go x f y
    for y l z
  if x u
    if x v
block s b y
  for y l z
    call t z
  go y i z
find x a many
  call t x
  go x p y
    go y p z
      call t z
    call t x
  for x k y
find y b one
"""


def rich_walk(*body, blocks=()):
    return Walk(rich_schema(), [("find", "x", "a", "many", body)], blocks)


class TextTest(unittest.TestCase):
    def raises(self, error, attributes, ask, *arguments):
        with self.assertRaises(error) as caught:
            ask(*arguments)
        self.assertEqual(vars(caught.exception), attributes)

    def wrong(self, line, text, schema=None):
        """The text has this wrong line: that of a walk if a schema is passed, else that of a schema."""
        if schema is None:
            self.raises(InvalidText, {"line": line}, read_schema, text)
        else:
            self.raises(InvalidText, {"line": line}, read_walk, schema, text)

    def wrong_plan(self, line, text, schema=None):
        self.raises(InvalidText, {"line": line}, read_plan, schema or rich_schema(), text)


class Written(TextTest):
    def test_schemas(self):
        self.assertEqual(schema_text(shop_schema()), SHOP)
        self.assertEqual(schema_text(schema=rich_schema()), RICH)
        self.assertEqual(schema_text(Schema(["b", "a"], {})), "kind a\nkind b\n")
        self.assertEqual(schema_text(Schema(["a"], {"f": ("a", "a", "single", False), "e": ("a", "a", "list", True)}, {"kind": "a"})),
                         "kind a\nfield e a a list list single\nfield f a a list single\nflag kind a\n")

    def test_walks(self):
        self.assertEqual(walk_text(walk=rich_walk()), "find x a many\n")
        self.assertEqual(walk_text(read_walk(rich_schema(), WALK)), WALK)
        body = ("go", "x", "p", "y", (("call", "t", "y"), ("for", "y", "k", "z", (("if", "z", "u", ()),)), ("if", "x", "v", ())))
        walk = rich_walk(body, ("call", "t", "x"), blocks=[("block", "t", "a", "v", (("go", "v", "q", "w", ()),))])
        self.assertEqual(walk_text(walk), "block t a v\n  go v q w\nfind x a many\n  go x p y\n    call t y\n    for y k z\n      if z u\n    if x v\n  call t x\n")

    def test_plans(self):
        self.assertEqual(plan_text(Plan(rich_schema())), "")
        self.assertEqual(plan_text(plan=Plan.of(rich_schema(), h="ahead", f="along", l="late")), "f along\nh ahead\n")

    def test_errors(self):
        for ask, error in ((schema_text, InvalidSchema), (walk_text, NoWalk), (plan_text, InvalidPlan)):
            for value in ODD + ["kind a\n"]:
                self.raises(error, {"value": value}, ask, value)
        for ask in (read_walk, read_plan):
            for value in ODD:
                self.raises(InvalidSchema, {"value": value}, ask, value, value)
        for value in [one for one in ODD if not isinstance(one, str)] + [b"kind a\n", ["kind a\n"]]:
            self.raises(InvalidText, {"line": None}, read_schema, value)
            self.raises(InvalidText, {"line": None}, read_walk, rich_schema(), value)
            self.raises(InvalidText, {"line": None}, read_plan, rich_schema(), value)


class ReadBack(TextTest):
    def test_by_name(self):
        self.assertEqual(read_schema(text=SHOP), shop_schema())
        self.assertEqual(read_schema(RICH), rich_schema())
        self.assertEqual(read_walk(text="find x a many\n", schema=rich_schema()), rich_walk())
        self.assertEqual(read_plan(text="", schema=rich_schema()), Plan(rich_schema()))
        self.assertEqual(read_plan(rich_schema(), "f along\nh ahead\n"), Plan.of(rich_schema(), f="along", h="ahead"))

    def test_names_that_are_words_of_texts(self):
        words = ["kind", "field", "list", "single", "flag", "block", "find", "go", "for", "if", "call", "one", "many", "late", "along",
                 "ahead"]
        fields = {name: ("kind", "field" if at % 2 else "kind", back, at % 3 == 0) for at, (name, back) in enumerate([
            ("kind", "field"), ("list", "single"), ("flag", None), ("block", "find"), ("go", "for"), ("if", "call"), ("one", None)])}
        schema = Schema(["kind", "field", "list", "flag", "single", "find"], fields,
                        {name: "kind" for name in ("many", "late", "along", "ahead")})
        self.assertEqual(read_schema(schema_text(schema)), schema)
        finds = [("find", name, "kind", "one", (("if", name, "many", (("call", "find", name),)),)) for name in ("find", "block", "call")]
        blocks = [("block", "find", "kind", "if", (("go", "if", "go", "go", (("for", "go", "for", "for", ()),)),)),
                  ("block", "block", "field", "block", ())]
        for walk in (Walk(schema, finds, blocks), Walk(schema, finds[:1] + [("find", "if", "list", "many", ())], blocks[:1])):
            self.assertEqual(read_walk(schema, walk_text(walk)), walk)
        for word in words:
            if word in schema.links() and schema.target_of(word) != schema.kind_of(word):
                plan = Plan.of(schema, **{word: "ahead"})
                self.assertEqual(read_plan(schema, plan_text(plan)), plan)

    def test_list_single(self):
        for single in (True, False):
            for name in ("single", "list", "field", None):
                schema = Schema(["a"], {"f": ("a", "a", name, single)})
                self.assertEqual(read_schema(schema_text(schema)), schema)
        self.assertEqual(read_schema("kind a\nfield f a a list single\n").is_single("f"), False)
        self.assertEqual(read_schema("kind a\nfield f a a list single single\n").back_of("f"), "single")
        self.assertEqual(read_schema("kind a\nfield f a a single\n").back_of("f"), None)

    def test_as_great_as_may_be(self):
        letters = "abcdefghijkl"
        fields = {f"f{letter}": ("a", letters[at % 6], f"l{letter}", at % 2 == 0) for at, letter in enumerate(letters)}
        schema = Schema(list("fedcba"), fields, {f"u{letter}": "c" for letter in letters})
        self.assertEqual(read_schema(schema_text(schema)), schema)
        text = "find x a many\n" + "".join([f"{'  ' * depth}if x u\n" for depth in range(1, 13)]) + "  go x f y\n" * 100
        self.assertEqual(walk_text(read_walk(rich_schema(), text)), text)
        text = "find x a many\n" + "  if x u\n" * 300
        self.assertEqual(len(read_walk(rich_schema(), text).paths()), 301)

    def test_by_chance(self):
        chance = random.Random(91)
        for number in range(300):
            schema = chance_schema(chance) if number % 2 else wide_schema(chance)
            walk, _, _ = chance_walk(chance, schema, chance_finds(chance, schema.kinds()), True)
            plan = chance_plan(chance, schema)
            self.assertEqual(read_schema(schema_text(schema)), schema)
            self.assertEqual(read_walk(schema, walk_text(walk)), walk)
            self.assertEqual(read_walk(schema, walk_text(walk.written_out())), walk.written_out())
            self.assertEqual(read_plan(schema, plan_text(plan)), plan)


class WrongSchemas(TextTest):
    def test_wanting(self):
        self.wrong(1, "")
        self.wrong(1, "\n")
        self.wrong(1, "kind a")
        self.wrong(2, "kind a\nkind b")
        self.wrong(2, "kind a\n\n")
        self.wrong(2, "kind a\n ")
        self.wrong(1, "field f a a\n")
        self.wrong(1, "flag u a\n")

    def test_kinds(self):
        for line in ["kind", "kind ", "kind a b", "Kind a", "kind A", " kind a", "kind a ", "kind  a", "kind abcdefghi", "kind a1",
                     "kinda", "kinds a",
                     "kind a_b", "kind 1", "kind a\tb", "KIND a", "kind a  ", "  kind a"]:
            self.wrong(1, line + "\n")
            self.wrong(2, "kind a\n" + line.replace("a", "b") + "\nfield f a a\n")
        self.wrong(2, "kind a\nkind a\n")
        self.wrong(2, "kind b\nkind a\nkind\n")
        self.wrong(7, "".join([f"kind {letter}\n" for letter in "abcdefg"]))
        self.wrong(3, "kind a\nfield f a a\nkind b\n")
        self.wrong(3, "kind a\nflag u a\nkind b\n")

    def test_fields(self):
        ahead = "kind a\nkind b\nfield f a b list l\n"
        for line in ["field", "field g", "field g a", "field g a c", "field g c a", "field G a b", "field g a b list",
                     "field g a b list m n", "field g a b m",
                     "field g a b singles", "field g a b single list m", "field g a b single single", "field g a b list m single single",
                     "field f a b",
                     "field e a b", "field l a b", "field g a b list f", "field g a b list l", "field g a b list g", "field g a b list M",
                     "field  g a b",
                     "field g a b ", " field g a b", "field g a b list  m", "field g a b list abcdefghi", "Field g a b",
                     "field g a b  single", "field g a b List m",
                     "field abcdefghi a b", "", "list m", "single", "field g a b list list list", "field g a b single m"]:
            self.wrong(4, ahead + line + "\n")
            self.wrong(4, ahead + line + "\nkind z\n")
        self.wrong(5, ahead + "field m a b\nfield n a b list m\n")
        self.wrong(5, ahead + "field g a b list n\nfield n a b\n")
        names = [f"f{letter}" for letter in "abcdefghijklm"]
        self.wrong(14, "kind a\n" + "".join([f"field {name} a a\n" for name in names]))
        self.wrong(3, "kind a\nflag u a\nfield f a a\n")

    def test_flags(self):
        ahead = "kind a\nkind b\nfield f a b list l\nflag u a\n"
        for line in ["flag", "flag v", "flag v a b", "flag v c", "flag u b", "flag t a", "flag V a", "flag v A", "flag  v a", "flag v a ",
                     " flag v a", "Flag v a",
                     "flags v a", "flag abcdefghi a", "flag f a", "flag l a", "flag v l", "", "kind c", "field g a b"]:
            self.wrong(5, ahead + line + "\n")
        self.wrong(4, "kind a\nfield w a a list v\nflag u a\nflag v a\n")
        self.wrong(14, "kind a\n" + "".join([f"flag f{letter} a\n" for letter in "abcdefghijklm"]))


class WrongWalks(TextTest):
    def test_wanting(self):
        schema = rich_schema()
        self.wrong(1, "", schema)
        self.wrong(1, "\n", schema)
        self.wrong(1, "block t a x\n", schema)
        self.wrong(3, "block t a x\nblock s a x\n  go x f y\n", schema)
        self.wrong(1, "find x a many", schema)
        self.wrong(2, "find x a many\n  go x f y", schema)
        self.wrong(2, "find x a many\n\n", schema)
        self.wrong(2, "find x a many\n\n  go x f y\n", schema)

    def test_heads(self):
        schema = rich_schema()
        for line in ["find", "find y", "find y a", "find y c many", "find y a two", "find y a Many", "find Y a one", "find y A one",
                     "find y a one one", "find x a one",
                     " find y a one", "find  y a one", "find y a one ", "Find y a one", "finds y a one", "find abcdefghi a one",
                     "go x f y", "call t x", "if x u", "y a one",
                     "for x k y", "block r a x", ""]:
            self.wrong(4, "block t a x\nfind x a many\n  go x f y\n" + line + "\n", schema)
            self.wrong(4, "block t a x\nfind x a many\n  go x f y\n" + line + "\nfind\n", schema)
        for line in ["block", "block s", "block s a", "block s c x", "block s a X", "block S a x", "block t a x", "block s a x x",
                     " block s a x", "block  s a x",
                     "block s a x ", "Block s a x", "block s a abcdefghi", "blocks s a x"]:
            self.wrong(3, "block t a x\n  go x f y\n" + line + "\nfind x a many\n", schema)
        # The names of blocks, finds and variables are independent.
        read_walk(schema, "block x a x\nfind x a one\n")
        self.wrong(7, "".join([f"block {letter} a x\n" for letter in "abcdefg"]) + "find x a one\n", schema)
        self.wrong(5, "".join([f"find {letter} a one\n" for letter in "abcde"]), schema)

    def test_depth(self):
        schema = rich_schema()
        self.wrong(1, "  find x a one\n", schema)
        self.wrong(1, "  go x f y\n", schema)
        for line in [" go x f y", "   go x f y", "    go x f y", "      go x f y", "go x f y", "  find y a one", "  block s a x",
                     "  go x f y ", "  go  x f y"]:
            self.wrong(2, "find x a many\n" + line + "\n", schema)
        self.wrong(4, "block t a x\nfind x a many\n  call t x\n    go x f y\n", schema)
        self.wrong(4, "find x a many\n  go x f y\n  go x f y\n      go x p z\n", schema)
        read_walk(schema, "find x a many\n  if x u\n    if x v\n      go x p y\n  go x p y\n    go y p z\n")

    def test_statements(self):
        schema = rich_schema()
        ahead = "block t b x\nblock s a x\nfind x a many\n  go x p y\n    "
        for line in ["go", "go y f", "go y f z w", "go z f w", "go y l w", "go y i w", "go y f x", "go y f y", "go y f Z", "go Y f z",
                     "go y x z", "go y u z", "Go y f z", "go y f abcdefghi",
                     "for y f z", "for y l z", "for y k x", "for y k", "For y k z", "for z k w", "if y", "if y w", "if y f", "if z u",
                     "if y u u", "if Y u", "call t y", "call r y", "call s z",
                     "call s", "call s y y", "call S y", "calls s y", "go y  f z", "go y f z ", "", "find z a one", "x", "block r a x",
                     "while y k z"]:
            self.wrong(5, ahead + line + "\n", schema)
            self.wrong(5, ahead + line + "\n    go y f z\n  go\n", schema)
        for line in ["go y f z", "for y k z", "if y u", "call s y", "call s x", "if x u", "go x f z"]:
            self.assertEqual(walk_text(read_walk(schema, ahead + line + "\n")), ahead + line + "\n")

    def test_blocks_that_do_not_stand_ahead(self):
        schema = rich_schema()
        self.wrong(2, "block t a x\n  call t x\nfind x a one\n", schema)
        self.wrong(2, "block t a x\n  call s x\nblock s a x\nfind x a one\n", schema)
        self.wrong(4, "block t a x\n  if x u\nblock s b y\n  call t y\nfind x a one\n", schema)
        read_walk(schema, "block t a x\nblock s a x\n  call t x\nfind x a one\n")

    def test_variables_in_sight(self):
        schema = rich_schema()
        # Behind its body a variable is out of sight, and its name can be taken again.
        read_walk(schema, "find x a one\n  go x p y\n  go x p y\n")
        self.wrong(3, "find x a one\n  go x p y\n  go y p z\n", schema)
        self.wrong(3, "find x a one\n  go x p y\n    go x p y\n", schema)
        self.wrong(3, "find x a one\nfind y a one\n  go x p z\n", schema)

    def test_only_too_great(self):
        schema = rich_schema()
        self.wrong(302, "find x a many\n" + "  if x u\n" * 301, schema)
        self.wrong(121, "find x a many\n" + "  go x f y\n" * 120, schema)
        deep = "find x a many\n" + "".join([f"{'  ' * depth}if x u\n" for depth in range(1, 14)])
        self.wrong(14, deep, schema)
        self.wrong(15, deep + "find y a one\n", schema)
        self.wrong(15, deep + "find y a one", schema)
        self.wrong(15, deep + "go\nfind y a one\n", schema)
        loops = "find x a many\n" + "".join([f"{'  ' * depth}for {x} k {y}\n" for depth,
                                             (x, y) in enumerate(zip("xyzvw", "yzvwu"), start=1)])
        self.wrong(6, loops, schema)
        read_walk(schema, "\n".join(loops.split("\n")[:-2]) + "\n")
        blocks = "block a a x\n  go x f y\n" + "".join([f"block {name} a x\n" + f"  call {before} x\n" * 9 for before,
                                                        name in zip("abcde", "bcdef")])
        self.wrong(54, blocks + "find x a many\n  call f x\n", schema)
        self.wrong(52, blocks, schema)
        # Very deep, and still the last line.
        deep = "find x a many\n" + "".join([f"{' ' * depth * 2}if x u\n" for depth in range(1, 135)])
        self.wrong(135, deep, schema)
        self.wrong(136, deep + "find x a one\n", schema)

    def test_the_first_of_two(self):
        lines = WALK.split("\n")[:-1]
        for first in range(len(lines)):
            for second in range(first + 1, len(lines)):
                spoilt = list(lines)
                spoilt[first] = spoilt[first] + " "
                spoilt[second] = ""
                self.wrong(first + 1, "\n".join(spoilt) + "\n", rich_schema())


class WrongPlans(TextTest):
    def test_lines(self):
        for line in ["f", "f late", "f Along", "F along", "f along along", " f along", "f  along", "f along ", "x along", "", "along f",
                     "f ahea", "u along", "a along", "i"]:
            self.wrong_plan(1, line + "\n")
            self.wrong_plan(2, "f along\n" + line.replace("f", "g") + "\nf\n")
        self.wrong_plan(2, "g along\nf along\n")
        self.wrong_plan(2, "f along\nf along\n")
        self.wrong_plan(1, "f along")
        self.wrong_plan(2, "f along\nm ahead")
        self.wrong_plan(2, "f along\n\n")

    def test_rings(self):
        self.wrong_plan(1, "p along\n")
        self.wrong_plan(2, "f along\ni ahead\nl late\n")
        self.wrong_plan(3, "f along\ng along\ni along\n")
        read_plan(rich_schema(), "g along\nm along\n")


def begins_schema(text):
    """Whether the lines, which end with line feeds, are the beginning of a schema's text: read in another way."""
    kinds, fields, flags = [], {}, {}
    for line in text.split("\n")[:-1]:
        word, *rest = line.split(" ")
        if word == "kind" and len(rest) == 1:
            kinds.append(rest[0])
        elif word == "field" and len(rest) in (3, 4, 5, 6):
            back = rest[4] if rest[3:4] == ["list"] and len(rest) > 4 else None
            fields[rest[0]] = (rest[1], rest[2], back, rest[-1] == "single" and len(rest) in (4, 6))
        elif word == "flag" and len(rest) == 2:
            flags[rest[0]] = rest[1]
    try:
        return schema_text(Schema(kinds, fields, flags)) == text
    except FetchError:
        return False


def begins_walk(schema, text):
    lines = text.split("\n")[:-1]
    if not any([line.startswith("find ") for line in lines]):
        lines.append(f"find z {schema.kinds()[0]} one")
    whole = "".join([line + "\n" for line in lines])
    if any([(len(line) - len(line.lstrip(" "))) % 2 for line in lines]):
        return False

    def rows(depth, at):
        """The tuple of the statements of a body, and where it ends."""
        found = []
        while at < len(lines) and len(lines[at]) - len(lines[at].lstrip(" ")) == 2 * depth:
            words = tuple(lines[at].lstrip(" ").split(" "))
            if words[0] == "call":
                found.append(words)
                at += 1
            else:
                inner, at = rows(depth + 1, at + 1)
                found.append(words + (inner,))
        return tuple(found), at

    found, end = rows(0, 0)
    if end < len(lines):
        return False
    try:
        walk = Walk(schema, [row for row in found if row[0] != "block"], [row for row in found if row[0] == "block"])
    except InvalidWalk:
        return False
    except TooMany:
        return True
    return walk_text(walk) == whole


def begins_plan(schema, text):
    words = dict([(line.split(" ") + [""])[:2] for line in text.split("\n")[:-1]])
    try:
        return plan_text(Plan.of(schema, **words)) == text
    except (FetchError, LookupError, WordRefused):
        return False


def spoilt(chance, text, others):
    """The text with some of its signs, words and lines changed."""
    lines = text.split("\n")
    for _ in range(chance.choice([1, 1, 1, 2])):
        at = chance.randrange(len(lines))
        way = chance.randrange(9)
        if way == 0:
            lines.insert(at, chance.choice(others))
        elif way == 1 and len(lines) > 1:
            del lines[at]
        elif way == 2:
            other = chance.randrange(len(lines))
            lines[at], lines[other] = lines[other], lines[at]
        elif way == 3:
            words = lines[at].split(" ")
            words[chance.randrange(len(words))] = chance.choice(" ".join(others).split(" "))
            lines[at] = " ".join(words)
        elif way == 4:
            lines[at] = "  " + lines[at]
        elif way == 5:
            lines[at] = lines[at][2:] if lines[at].startswith("  ") else lines[at] + " "
        elif way == 6:
            place = chance.randrange(len(lines[at]) + 1)
            lines[at] = lines[at][:place] + chance.choice(" abfxX1 ") + lines[at][place:]
        elif way == 7:
            place = chance.randrange(len(lines[at]) + 1)
            lines[at] = lines[at][:place] + lines[at][place + 1:]
        else:
            lines.insert(at, lines[at])
    return "\n".join(lines)


class Oracles(TextTest):
    """The wrong line is the first one with which no text can begin."""

    def check(self, text, begins, read, wanting):
        lines = text.split("\n")
        whole = lines[:-1]
        wanted = None
        for many in range(1, len(whole) + 1):
            if wanted is None and not begins("".join([line + "\n" for line in whole[:many]])):
                wanted = many
        if wanted is None and lines[-1] != "":
            wanted = len(lines)
        if wanted is None and wanting(whole):
            wanted = max(1, len(whole))
        try:
            read(text)
            told = None
        except InvalidText as error:
            told = error.line
        self.assertEqual(told, wanted, text)
        return told

    def test_schemas(self):
        chance = random.Random(92)
        told = set()
        for _ in range(800):
            text = spoilt(chance, schema_text(rich_schema() if chance.random() < 0.5 else wide_schema(chance)), RICH.split("\n"))
            told.add(self.check(text, begins_schema, read_schema, lambda lines: len(lines) == 0))
        self.assertGreater(len(told), 12)

    def test_walks(self):
        chance = random.Random(93)
        told = set()
        for _ in range(1500):
            schema, text = rich_schema(), WALK
            if chance.random() < 0.5:
                schema = chance_schema(chance)
                text = walk_text(chance_walk(chance, schema, chance_finds(chance), True)[0])
            text = spoilt(chance, text, text.split("\n"))
            wanting = lambda lines: not any([line.startswith("find ") for line in lines])
            told.add(self.check(text, lambda lines: begins_walk(schema, lines), lambda lines: read_walk(schema, lines), wanting))
        self.assertGreater(len(told), 15)

    def test_plans(self):
        chance = random.Random(94)
        told = set()
        for _ in range(800):
            schema = wide_schema(chance)
            text = spoilt(chance, plan_text(chance_plan(chance, schema)),
                          [f"{link} {word}" for link in schema.links() for word in Plan.WORDS])
            told.add(self.check(text, lambda lines: begins_plan(schema, lines), lambda lines: read_plan(schema, lines),
                                lambda lines: False))
        self.assertGreater(len(told), 4)


if __name__ == "__main__":
    unittest.main()
