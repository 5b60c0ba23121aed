"""What is wrong with the finds and blocks that a walk is to be made of."""

from fetchwalks.checks import is_name, is_sequence

MOST_FINDS = 4
MOST_BLOCKS = 6

# The length of each tuple, and how many names stand behind its first word.
FORMS = {"block": (5, 3), "find": (5, 2), "go": (5, 3), "for": (5, 3), "if": (4, 2), "call": (3, 2)}
STATEMENTS = ("go", "for", "if", "call")
FIND_WORDS = ("one", "many")


def walk_fault(schema, finds, blocks):
    """The tuple (problem, place) for what is wrong first, or None."""
    fault = blocks_fault(schema, blocks)
    if fault is None:
        fault = finds_fault(schema, finds, blocks)
    return fault


def blocks_fault(schema, blocks):
    if not is_sequence(blocks) or len(blocks) > MOST_BLOCKS:
        return ("form", (0,))
    kinds = {}
    for position, block in enumerate(blocks):
        fault = head_fault(schema, block, (0, position), kinds, kinds)
        if fault is not None:
            return fault
        kinds[block[1]] = block[2]
    return None


def finds_fault(schema, finds, blocks):
    if not is_sequence(finds) or not 1 <= len(finds) <= MOST_FINDS:
        return ("form", (1,))
    kinds = {block[1]: block[2] for block in blocks}
    earlier = {}
    for position, find in enumerate(finds):
        fault = head_fault(schema, find, (1, position), earlier, kinds)
        if fault is not None:
            return fault
        earlier[find[1]] = find[2]
    return None


def head_fault(schema, row, place, earlier, kinds):
    """Like walk_fault, for a block or a find; earlier has the names ahead of it, kinds tells those of blocks."""
    word = "find" if place[0] == 1 else "block"
    problem = head_problem(schema, row, word, earlier)
    if problem is not None:
        return (problem, place)
    variable = row[1] if word == "find" else row[3]
    return body_fault(schema, row[4], place, {variable: row[2]}, kinds)


def body_fault(schema, body, place, sight, kinds):
    """Like walk_fault, for a tuple of statements; sight tells the kinds of variables, kinds those of blocks."""
    for position, step in enumerate(body):
        here = place + (position,)
        problem = step_problem(schema, step, sight, kinds)
        if problem is not None:
            return (problem, here)
        if step[0] != "call":
            fault = body_fault(schema, step[-1], here, inner_sight(schema, step, sight), kinds)
            if fault is not None:
                return fault
    return None


def inner_sight(schema, step, sight):
    if step[0] == "if":
        return sight
    _, _, link, variable, _ = step
    return {**sight, variable: schema.target_of(link)}


def has_form(value, words):
    """Whether the value is a tuple as long as its first word, one of words, asks for, with names behind it."""
    if not isinstance(value, tuple) or len(value) == 0:
        return False
    word = value[0]
    if not isinstance(word, str) or word not in words:
        return False
    length, names = FORMS[word]
    return len(value) == length and all([is_name(name) for name in value[1:names + 1]])


def head_problem(schema, row, word, earlier):
    if not has_form(row, (word,)):
        return "form"
    if word == "find" and (not isinstance(row[3], str) or row[3] not in FIND_WORDS):
        return "form"
    if row[2] not in schema.kinds():
        return "kind"
    if row[1] in earlier:
        return "block"
    return body_problem(row[4])


def body_problem(body):
    if not isinstance(body, tuple):
        return "body"
    return None


def step_problem(schema, step, sight, kinds):
    if not has_form(step, STATEMENTS):
        return "form"
    if step[0] == "call":
        return call_problem(step, sight, kinds)
    word, x, name = step[:3]
    if x not in sight:
        return "unseen"
    if word == "if":
        if name not in schema.flags_of(sight[x]):
            return "flag"
        return body_problem(step[-1])
    if name not in schema.links_from(sight[x]) or schema.is_list(name) != (word == "for"):
        return "link"
    if step[3] in sight:
        return "taken"
    return body_problem(step[-1])


def call_problem(step, sight, kinds):
    _, name, x = step
    if x not in sight:
        return "unseen"
    if name not in kinds or kinds[name] != sight[x]:
        return "block"
    return None
