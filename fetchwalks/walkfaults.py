"""What is wrong with the finds and blocks that a walk is to be made of, and how great they are, written out.

A size is a tuple of four numbers: of statements, of spots, of statements within one another, and of loops among these.
Nothing here changes what it is passed: the operators of walks use it.
"""

from fetchwalks.checks import is_name, is_sequence
from fetchwalks.errors import InvalidWalk, TooMany

MOST_FINDS = 4
MOST_BLOCKS = 6
MOST_STATEMENTS = 300
MOST_SPOTS = 120
MOST_DEEP = 12
MOST_LOOPS = 4

# The length of each tuple, and how many names stand behind its first word.
FORMS = {"block": (5, 3), "find": (5, 2), "go": (5, 3), "for": (5, 3), "if": (4, 2), "call": (3, 2)}
STATEMENTS = ("go", "for", "if", "call")
FIND_WORDS = ("one", "many")

# The sizes of statements with empty bodies.
SMALLEST = {"go": (1, 1, 1, 0), "for": (1, 1, 1, 1), "if": (1, 0, 1, 0)}


def checked_sizes(schema, finds, blocks):
    """The list of the sizes of the bodies of the finds; InvalidWalk tells what is wrong first."""
    if not is_sequence(blocks) or len(blocks) > MOST_BLOCKS:
        raise InvalidWalk("form", (0,))
    # From the name of each block to its kind and its size.
    known = {}
    for position, block in enumerate(blocks):
        size = head_size(schema, block, (0, position), known, known)
        known[block[1]] = (block[2], size)
    if not is_sequence(finds) or not 1 <= len(finds) <= MOST_FINDS:
        raise InvalidWalk("form", (1,))
    sizes = []
    earlier = {}
    for position, find in enumerate(finds):
        sizes.append(head_size(schema, find, (1, position), earlier, known))
        earlier[find[1]] = True
    return sizes


def head_size(schema, row, place, earlier, blocks):
    """The size of the body of a block or a find; earlier has the names of those ahead of it."""
    word = "find" if place[0] == 1 else "block"
    problem = head_problem(schema, row, word, earlier)
    if problem is not None:
        raise InvalidWalk(problem, place)
    variable = row[1] if word == "find" else row[3]
    return body_size(schema, row[4], place, {variable: row[2]}, blocks)


def body_size(schema, body, place, sight, blocks):
    """The size of a tuple of statements; sight tells the kinds of variables, blocks the kinds and sizes of blocks."""
    links, flags = schema.link_rows, schema.flag_kinds
    sizes = []
    for position, step in enumerate(body):
        # Most statements are right; what is wrong with the others is looked at in the sequence of the problems.
        if not is_right(links, flags, step, sight):
            problem = step_problem(links, flags, step, sight, blocks)
            if problem is not None:
                raise InvalidWalk(problem, place + (position,))
        word, inner = step[0], step[-1]
        if word == "call":
            sizes.append(blocks[step[1]][1])
        elif len(inner) == 0:
            sizes.append(SMALLEST[word])
        else:
            seen = sight if word == "if" else {**sight, step[3]: links[step[2]][1]}
            size = body_size(schema, inner, place + (position,), seen, blocks)
            sizes.append(size_around(word, size))
    return joined_size(sizes)


def size_around(word, size):
    """The size of a statement whose body has this size."""
    return tuple([one + own for one, own in zip(size, SMALLEST[word])])


def joined_size(sizes):
    """The size of bodies that stand side by side."""
    if len(sizes) == 1:
        return sizes[0]
    statements = sum([size[0] for size in sizes])
    spots = sum([size[1] for size in sizes])
    depth = max([size[2] for size in sizes], default=0)
    loops = max([size[3] for size in sizes], default=0)
    return (statements, spots, depth, loops)


def check_greatness(sizes):
    """The limits of a walk with finds of these sizes."""
    statements, spots, depth, loops = joined_size(sizes)
    if statements > MOST_STATEMENTS:
        raise TooMany("statements", MOST_STATEMENTS)
    if spots + len(sizes) > MOST_SPOTS:
        raise TooMany("spots", MOST_SPOTS)
    if depth > MOST_DEEP:
        raise TooMany("depth", MOST_DEEP)
    if loops > MOST_LOOPS:
        raise TooMany("loops", MOST_LOOPS)


def is_right(links, flags, step, sight):
    """Whether the value is a statement, but for a call, with which nothing is wrong."""
    if not isinstance(step, tuple):
        return False
    if len(step) == 4:
        word, x, flag, body = step
        if word != "if" or not isinstance(x, str) or x not in sight or not isinstance(body, tuple):
            return False
        return isinstance(flag, str) and flags.get(flag) == sight[x]
    if len(step) == 5:
        word, x, link, y, body = step
        if not isinstance(x, str) or x not in sight or not isinstance(link, str) or link not in links:
            return False
        kind, _, _, is_list, _ = links[link]
        if kind != sight[x] or word != ("for" if is_list else "go"):
            return False
        return is_name(y) and y not in sight and isinstance(body, tuple)
    return False


def has_form(value, words):
    """Whether the value is a tuple as long as its first word, one of words, asks for, with names behind it."""
    if not isinstance(value, tuple) or len(value) == 0:
        return False
    word = value[0]
    if not isinstance(word, str) or word not in words:
        return False
    length, names = FORMS[word]
    return len(value) == length and all([is_name(name) for name in value[1:names + 1]])


def head_problem(schema, row, word, earlier):
    if not has_form(row, (word,)):
        return "form"
    if word == "find" and (not isinstance(row[3], str) or row[3] not in FIND_WORDS):
        return "form"
    if not schema.has_kind(row[2]):
        return "kind"
    if row[1] in earlier:
        return "block"
    return body_problem(row[4])


def body_problem(body):
    if not isinstance(body, tuple):
        return "body"
    return None


def step_problem(links, flags, step, sight, blocks):
    if not has_form(step, STATEMENTS):
        return "form"
    if step[0] == "call":
        return call_problem(step, sight, blocks)
    word, x, name = step[:3]
    if x not in sight:
        return "unseen"
    if word == "if":
        if name not in flags or flags[name] != sight[x]:
            return "flag"
        return body_problem(step[-1])
    if name not in links or links[name][0] != sight[x] or links[name][3] != (word == "for"):
        return "link"
    if step[3] in sight:
        return "taken"
    return body_problem(step[-1])


def call_problem(step, sight, blocks):
    _, name, x = step
    if x not in sight:
        return "unseen"
    if name not in blocks or blocks[name][0] != sight[x]:
        return "block"
    return None
