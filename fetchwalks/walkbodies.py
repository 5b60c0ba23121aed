"""Bodies of walks: how they are written out, and what stands at their paths.

Nothing here changes what it is passed: the operators of walks use it.
"""

from fetchwalks.checks import LETTERS


def written_finds(finds, blocks):
    """The finds, written out."""
    if len(blocks) == 0:
        return finds
    table = {name: (variable, body) for _, name, _, variable, body in blocks}
    rows = []
    for find in finds:
        name = find[1]
        rows.append(find[:-1] + (plain_body(find[-1], {name: name}, (name,), table, False),))
    return tuple(rows)


def plain_body(body, names, sight, table, called):
    """The body, written out: names tells what its variables are called, sight which names are in sight."""
    rows = []
    for step in body:
        if step[0] == "call":
            variable, inner = table[step[1]]
            rows.extend(plain_body(inner, {variable: names[step[2]]}, sight, table, True))
        else:
            rows.append(plain_step(step, names, sight, table, called))
    return tuple(rows)


def plain_step(step, names, sight, table, called):
    if step[0] == "if":
        word, x, flag, body = step
        return (word, names[x], flag, plain_body(body, names, sight, table, called))
    word, x, link, y, body = step
    name = fresh_name(sight) if called else y
    inner = ()
    if len(body) > 0:
        inner = plain_body(body, {**names, y: name}, sight + (name,), table, called)
    return (word, names[x], link, name, inner)


def fresh_name(sight):
    # The limit of depth leaves fewer names in sight than there are letters.
    return [letter for letter in LETTERS if letter not in sight][0]


def path_table(schema, finds):
    """From each path, sorted, to (statement without body, spot of its x, kind of its variable, route)."""
    links = schema.link_rows
    table = {}
    # What stands last comes next: the statements of a body are put here from the last one on.
    waiting = [((position,), finds[position], {}) for position in range(len(finds) - 1, -1, -1)]
    while len(waiting) > 0:
        path, step, seen = waiting.pop()
        word, body = step[0], step[-1]
        if word == "find":
            table[path] = (step[:-1], None, step[2], (step[1],))
            inner = {step[1]: path}
        elif word == "if":
            table[path] = (step[:-1], seen[step[1]], None, None)
            inner = seen
        else:
            owner, link = seen[step[1]], step[2]
            table[path] = (step[:-1], owner, links[link][1], table[owner][3] + (link,))
            inner = {**seen, step[3]: path} if len(body) > 0 else seen
        for position in range(len(body) - 1, -1, -1):
            waiting.append((path + (position,), body[position], inner))
    return table


class Step:
    """A find or a statement as a run needs it: where it stands, about which step's object it is, and what comes then.

    The links of a for are its list, and the field by which its members are found.
    """

    def __init__(self, word, path, owner, name, field, kinds, past):
        self.word = word
        self.path = path
        self.owner = owner
        self.name = name
        self.field = field
        self.owner_kind, self.kind = kinds
        self.past = past


def program_of(links, paths):
    """The list of the steps of a run, by paths; owner and past are positions in it, past the one behind the body."""
    places = {path: place for place, path in enumerate(paths)}
    steps = []
    later = []
    for path in list(paths)[::-1]:
        head, owner, kind, _ = paths[path]
        # Behind a body comes the next path that is not longer.
        while len(later) > 0 and len(later[-1]) > len(path):
            later.pop()
        past = places[later[-1]] if len(later) > 0 else len(places)
        later.append(path)
        word = head[0]
        name = head[1] if word == "find" else head[2]
        field = links[name][2] if word == "for" else name
        owner_kind = None if owner is None else paths[owner][2]
        steps.append(Step(word, path, places.get(owner), name, field, (owner_kind, kind), past))
    return steps[::-1]


def body_without(body, path):
    """The body without the statement to which the path leads in it."""
    position = path[0]
    if len(path) == 1:
        return body[:position] + body[position + 1:]
    step = body[position]
    rest = step[:-1] + (body_without(step[-1], path[1:]),)
    return body[:position] + (rest,) + body[position + 1:]


def finds_without(finds, gone):
    """The finds, written out, without the statements at these paths."""
    left_out = {path: True for path in gone}
    return [find[:-1] + (body_left(find[-1], (position,), left_out),) for position, find in enumerate(finds)]


def body_left(body, path, left_out):
    rows = []
    for position, step in enumerate(body):
        here = path + (position,)
        if here not in left_out:
            rows.append(step[:-1] + (body_left(step[-1], here, left_out),))
    return tuple(rows)
