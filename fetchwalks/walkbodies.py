"""Bodies of walks: how great they are, written out, and what stands at their paths.

Nothing here changes what it is passed: the operators of walks use it.
"""

from fetchwalks.checks import LETTERS
from fetchwalks.errors import TooMany

MOST_STATEMENTS = 300
MOST_SPOTS = 120
MOST_DEEP = 12
MOST_LOOPS = 4


def check_greatness(finds, blocks):
    # Blocks that call blocks can be far too long to be written out, so this is reckoned ahead of it.
    sizes = {}
    for _, name, _, _, body in blocks:
        sizes[name] = body_size(body, sizes)
    statements, spots, depth, loops = joined_size([body_size(find[-1], sizes) for find in finds])
    if statements > MOST_STATEMENTS:
        raise TooMany("statements", MOST_STATEMENTS)
    if spots + len(finds) > MOST_SPOTS:
        raise TooMany("spots", MOST_SPOTS)
    if depth > MOST_DEEP:
        raise TooMany("depth", MOST_DEEP)
    if loops > MOST_LOOPS:
        raise TooMany("loops", MOST_LOOPS)


def joined_size(sizes):
    """The size of bodies that stand side by side."""
    statements = sum([size[0] for size in sizes])
    spots = sum([size[1] for size in sizes])
    depth = max([size[2] for size in sizes], default=0)
    loops = max([size[3] for size in sizes], default=0)
    return (statements, spots, depth, loops)


def body_size(body, sizes):
    """The numbers of statements, of spots, of statements within one another, and of loops among these."""
    return joined_size([step_size(step, sizes) for step in body])


def step_size(step, sizes):
    word = step[0]
    if word == "call":
        return sizes[step[1]]
    statements, spots, depth, loops = body_size(step[-1], sizes)
    own_spots = 0 if word == "if" else 1
    own_loops = 1 if word == "for" else 0
    return (statements + 1, spots + own_spots, depth + 1, loops + own_loops)


def plain_finds(finds, blocks):
    """The finds, written out."""
    table = {name: (variable, body) for _, name, _, variable, body in blocks}
    rows = []
    for find in finds:
        name = find[1]
        rows.append(find[:-1] + (plain_body(find[-1], {name: name}, (name,), table, False),))
    return tuple(rows)


def plain_body(body, names, sight, table, called):
    """The body, written out: names tells what its variables are called, sight which names are in sight."""
    rows = []
    for step in body:
        if step[0] == "call":
            variable, inner = table[step[1]]
            rows.extend(plain_body(inner, {variable: names[step[2]]}, sight, table, True))
        else:
            rows.append(plain_step(step, names, sight, table, called))
    return tuple(rows)


def plain_step(step, names, sight, table, called):
    if step[0] == "if":
        word, x, flag, body = step
        return (word, names[x], flag, plain_body(body, names, sight, table, called))
    word, x, link, y, body = step
    name = fresh_name(sight) if called else y
    inner = plain_body(body, {**names, y: name}, sight + (name,), table, called)
    return (word, names[x], link, name, inner)


def fresh_name(sight):
    # The limit of depth leaves fewer names in sight than there are letters.
    return [letter for letter in LETTERS if letter not in sight][0]


def path_table(schema, finds):
    """From each path, sorted, to (statement without body, spot of its x, kind of its variable, route)."""
    rows = []
    for position, find in enumerate(finds):
        _, name, kind, _, body = find
        path = (position,)
        rows.append((path, find[:-1], None, kind, (name,)))
        rows.extend(body_rows(schema, body, path, {name: (path, (name,))}))
    return {path: (head, owner, kind, route) for path, head, owner, kind, route in rows}


def body_rows(schema, body, path, seen):
    """The rows of path_table for a body; seen tells the spots and routes of the variables in sight."""
    rows = []
    for position, step in enumerate(body):
        here = path + (position,)
        owner, route = seen[step[1]]
        if step[0] == "if":
            rows.append((here, step[:-1], owner, None, None))
            rows.extend(body_rows(schema, step[-1], here, seen))
        else:
            longer = route + (step[2],)
            rows.append((here, step[:-1], owner, schema.target_of(step[2]), longer))
            rows.extend(body_rows(schema, step[-1], here, {**seen, step[3]: (here, longer)}))
    return rows


def body_without(body, path):
    """The body without the statement to which the path leads in it."""
    position = path[0]
    if len(path) == 1:
        return body[:position] + body[position + 1:]
    step = body[position]
    rest = step[:-1] + (body_without(step[-1], path[1:]),)
    return body[:position] + (rest,) + body[position + 1:]
