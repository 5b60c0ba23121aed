"""Schemas, walks, plans, stores and roots that are made by chance, and slow ways to find what they lead to."""

from fetchwalks.errors import TooMany, WordRefused
from fetchwalks.places import kept_places
from fetchwalks.plans import Plan
from fetchwalks.sizes import Sizes
from fetchwalks.stores import Store
from fetchwalks.schemas import Schema
from fetchwalks.walks import Walk

KINDS = ["a", "b"]
VARIABLES = "cdefghijklm"


def chance_schema(chance):
    fields = {}
    for number in range(chance.randint(1, 4)):
        back = chance.choice([None, "l", "l"])
        fields[f"f{'abcd'[number]}"] = (
            chance.choice(KINDS), chance.choice(KINDS), back and back + "abcd"[number], chance.random() < 0.4,
        )
    return Schema(KINDS, fields, {"u": "a", "v": "b"})


def wide_schema(chance):
    """A schema of four kinds, so that plans lead further."""
    fields = {}
    for letter in "abcdefghi"[:chance.randint(3, 9)]:
        ends = chance.sample("abcd", 2) if chance.random() < 0.8 else [chance.choice("abcd")] * 2
        fields[f"f{letter}"] = (ends[0], ends[1], chance.choice([None, f"l{letter}", f"l{letter}"]), chance.random() < 0.3)
    return Schema(["a", "b", "c", "d"], fields, {"u": "a", "v": "b", "w": "c", "x": "d"})


def chance_body(chance, schema, sight, depth, loops, blocks):
    body = []
    for _ in range(chance.choice([0, 1, 1, 2, 3]) if depth else 0):
        x = chance.choice(sorted(sight))
        links = schema.links_from(sight[x])
        if not loops:
            links = [link for link in links if not schema.is_list(link)]
        called = [name for name in blocks if blocks[name][0] == sight[x] and blocks[name][1] <= depth and blocks[name][2] <= loops]
        if called and chance.random() < 0.4:
            body.append(("call", chance.choice(called), x))
        elif links and chance.random() < 0.8:
            link = chance.choice(links)
            y = [name for name in VARIABLES if name not in sight][chance.randrange(3)]
            word = "for" if schema.is_list(link) else "go"
            inner = {**sight, y: schema.target_of(link)}
            rest = chance_body(chance, schema, inner, depth - 1, loops - (word == "for"), blocks)
            body.append((word, x, link, y, rest))
        else:
            flag = schema.flags_of(sight[x])[0]
            body.append(("if", x, flag, chance_body(chance, schema, sight, depth - 1, loops, blocks)))
    return tuple(body)


def chance_walk(chance, schema, finds, with_blocks):
    """A tuple (walk, finds, blocks), the walk being made of these finds and blocks."""
    rows, blocks = [], {}
    for name, depth, loops in [("r", 2, 1), ("s", 3, 1), ("t", 4, 2)] if with_blocks else []:
        kind = chance.choice(schema.kinds())
        rows.append(("block", name, kind, "x", chance_body(chance, schema, {"x": kind}, depth, loops, blocks)))
        blocks[name] = (kind, depth, loops)
    found = []
    for name, kind, word in finds:
        found.append(("find", name, kind, word, chance_body(chance, schema, {name: kind}, 5, 3, blocks)))
    try:
        walk = Walk(schema, found, rows)
    except TooMany:
        return chance_walk(chance, schema, finds, with_blocks)
    # Greater ones are tested elsewhere; many of them would take long.
    return (walk, found, rows) if len(walk) <= 50 else chance_walk(chance, schema, finds, with_blocks)


def chance_finds(chance, kinds=("a", "b")):
    names = ["x", "y"][:chance.choice([1, 1, 2])]
    return [(name, chance.choice(kinds), chance.choice(["one", "many"])) for name in names]


def chance_store(chance, schema):
    store = Store(schema)
    numbers = {kind: chance.sample(range(1, 9), chance.randint(1, 4)) for kind in schema.kinds()}
    rows, taken = [], set()
    for kind in schema.kinds():
        for number in numbers[kind]:
            row = {flag: chance.random() < 0.7 for flag in schema.flags_of(kind)}
            for field in [link for link in schema.links_from(kind) if not schema.is_list(link)]:
                target = chance.choice(numbers[schema.target_of(field)] + [None])
                if schema.is_single(field) and (field, target) in taken:
                    target = None
                taken.add((field, target))
                row[field] = target
            rows.append((kind, number, row))
    store += rows
    return store


def chance_roots(chance, store, finds):
    roots = {}
    for name, kind, word in finds:
        ids = chance.sample(store.ids(kind), chance.randint(0, len(store.ids(kind))))
        roots[name] = ids[:1] if word == "one" else ids
    return roots


def slow_run(store, finds, blocks, roots):
    """What is touched and looped, as (kind, number) and (list, number), with blocks done as such."""
    schema, seen, looped = store.schema, [], []
    bodies = {name: (variable, body) for _, name, _, variable, body in blocks}

    def do(body, sight):
        for step in body:
            if step[0] == "call":
                variable, inner = bodies[step[1]]
                do(inner, {variable: sight[step[2]]})
                continue
            kind, number = sight[step[1]]
            if step[0] == "if":
                if store[kind, number][step[2]]:
                    do(step[3], sight)
                continue
            if step[0] == "go":
                ends = [store[kind, number][step[2]]]
            else:
                looped.append((step[2], number))
                field = schema.back_of(step[2])
                ends = [row[1] for row in store.rows() if row[0] == schema.target_of(step[2]) and row[2][field] == number]
            for end in ends:
                if end is not None:
                    seen.append((schema.target_of(step[2]), end))
                    do(step[4], {**sight, step[3]: (schema.target_of(step[2]), end)})

    for _, name, kind, _, body in finds:
        for number in roots[name]:
            seen.append((kind, number))
            do(body, {name: (kind, number)})
    return seen, looped


def chance_plan(chance, schema):
    """A plan with as many links that are not late as the chosen sequence lets be."""
    plan = Plan(schema)
    for link in chance.sample(schema.links(), len(schema.links())):
        try:
            plan[link] = chance.choice(["late", "along", "along", "ahead", "ahead"])
        except WordRefused:
            pass
    return plan


class SlowSession:
    """Questions as point 32 tells them; what comes along is brought in a sequence that is left to chance."""

    def __init__(self, store, plan, chance):
        self.store, self.plan, self.chance = store, plan, chance
        self.schema = store.schema
        self.kept, self.kept_lists, self.log, self.seen = set(), set(), [], []

    def bring(self, things):
        objects, lists, waiting = [], [], list(things)
        while waiting:
            name, number = waiting.pop(self.chance.randrange(len(waiting)))
            if name in self.schema.links():
                if (name, number) not in self.kept_lists:
                    self.kept_lists.add((name, number))
                    lists.append((name, number))
                    waiting += [(self.schema.target_of(name), one) for one in self.store.members(name, number)]
            elif (name, number) not in self.kept:
                self.kept.add((name, number))
                objects.append((name, number))
                for link in self.schema.links_from(name):
                    if self.plan[link] == "along":
                        waiting += [(link, number)] if self.schema.is_list(link) else self.end(link, number)
        return sorted(objects), sorted(lists)

    def end(self, field, number):
        target = self.store[self.schema.kind_of(field), number][field]
        return [] if target is None else [(self.schema.target_of(field), target)]

    def missed(self, link, brought):
        numbers = [number for kind, number in brought if kind == self.schema.kind_of(link)]
        if self.schema.is_list(link):
            return [(link, number) for number in numbers if (link, number) not in self.kept_lists]
        return [end for number in numbers for end in self.end(link, number) if end not in self.kept]

    def ask(self, label, link, find, number, things):
        answers = [len(self.log)]
        self.log.append((label, link, find, number) + self.bring(things) + (None,))
        while answers:
            at = answers.pop(0)
            for name in self.schema.links():
                things = self.missed(name, self.log[at][4]) if self.plan[name] == "ahead" else []
                if things:
                    answers.append(len(self.log))
                    self.log.append(("ahead", name, None, None) + self.bring(things) + (at,))

    def run(self, walk, finds, roots):
        """The finds are those of the walk, written out."""
        for position, (_, name, kind, _, body) in enumerate(finds):
            self.ask("find", None, name, None, [(kind, number) for number in roots[name]])
            for number in roots[name]:
                self.seen.append(((position,), number))
                self.do(body, (position,), {name: (kind, number)})

    def do(self, body, path, sight):
        for position, step in enumerate(body):
            here, (kind, number) = path + (position,), sight[step[1]]
            if step[0] == "if":
                if self.store[kind, number][step[2]]:
                    self.do(step[3], here, sight)
                continue
            if step[0] == "go":
                ends = self.end(step[2], number)
                if ends and ends[0] not in self.kept:
                    self.ask("object", step[2], None, ends[0][1], ends)
            else:
                if (step[2], number) not in self.kept_lists:
                    self.ask("list", step[2], None, number, [(step[2], number)])
                ends = [(self.schema.target_of(step[2]), one) for one in self.store.members(step[2], number)]
            for end in ends:
                self.seen.append((here, end[1]))
                self.do(step[4], here, {**sight, step[3]: end})


def told(question):
    return (
        question.label, question.link_name, question.find_name, question.asked_number,
        question.brought, question.brought_lists, question.behind,
    )


def chance_sizes(chance, walk):
    sizes = Sizes(walk)
    for label, name in sizes.names():
        sizes[label, name] = chance.choice([1, 2, 3] if label == "find" else [2, 2, 3])
    return sizes


def least_sizes(walk, store, roots):
    """The least sizes that a store with roots keeps."""
    sizes = Sizes(walk)
    for label, name in sizes.names():
        if label == "find":
            sizes[label, name] = max(1, len(roots[name]))
        else:
            owners = store.ids(walk.schema.kind_of(name))
            sizes[label, name] = max([2] + [len(store.members(name, owner)) for owner in owners])
    return sizes


def full_store(walk, plan, sizes):
    """The tuple (store, roots) with an object for each unit of weight of each kept place, as point 53 tells it."""
    schema, rows, things, roots = walk.schema, {}, {}, {}

    def make(kind):
        number = 1 + len([at for at in rows if at[0] == kind])
        rows[kind, number] = {flag: True for flag in schema.flags_of(kind)}
        rows[kind, number].update({link: None for link in schema.links_from(kind) if not schema.is_list(link)})
        return number

    for name, kind, word in walk.finds():
        things[(name,)] = [make(kind) for _ in range(sizes["find", name] if word == "many" else 1)]
        roots[name] = things[(name,)]
    for place in sorted(kept_places(walk, plan).rows(), key=len):
        link = place[-1]
        for start in things[place[:-1]] if len(place) > 1 else []:
            if not schema.is_list(link):
                ends = [make(schema.target_of(link))]
                rows[schema.kind_of(link), start][link] = ends[0]
            else:
                many = 1 if schema.is_single(link) else sizes["list", link]
                if len(place) > 2 and place[-2] == schema.back_of(link):
                    many -= 1
                ends = [make(schema.target_of(link)) for _ in range(many)]
                for end in ends:
                    rows[schema.target_of(link), end][schema.back_of(link)] = start
            things.setdefault(place, []).extend(ends)
    store = Store(schema)
    store += [(kind, number, row) for (kind, number), row in rows.items()]
    return store, roots
