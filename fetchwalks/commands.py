"""Commands of a desk, and the parts of which they consist."""

from fetchwalks.checks import is_name
from fetchwalks.errors import InvalidCommand

# For the first word of each command the sorts of the names behind it: new ones, or those of things.
SORTS = {
    "schema": ("new",), "walk": ("new", "schema"), "plan": ("new", "schema"), "store": ("new", "schema"),
    "row": ("store",), "word": ("plan",), "drop": ("thing",), "undo": (),
    "asks": ("walk", "plan", "store"), "most": ("walk", "plan"), "must": ("walk",), "within": ("walk", "walk"),
    "places": ("walk",),
}
VALUES = {"none": None, "yes": True, "no": False}
LABELS = ("find", "list")


def command_parts(command):
    """The tuple of the first word, the list of the names behind it, and what the rest tells; InvalidCommand."""
    if not isinstance(command, str) or "\n" in command:
        raise InvalidCommand(command)
    word = command.split(" ", 1)[0]
    if word not in SORTS:
        raise InvalidCommand(command)
    many = len(SORTS[word])
    parts = command.split(" ", many + 1)
    names = parts[1:many + 1]
    if len(names) < many or not all([is_name(name) for name in names]):
        raise InvalidCommand(command)
    told = told_by(word, parts[many + 1] if len(parts) > many + 1 else None)
    if told is None:
        raise InvalidCommand(command)
    return (word, names, told)


def told_by(word, rest):
    """What the rest of a command tells, the rest being None if there is none; None if there is no such command."""
    if word == "schema" or word == "walk":
        return None if rest is None else text_in(rest)
    if word == "plan":
        return "" if rest is None else text_in(rest)
    if word == "row":
        return None if rest is None else row_in(rest.split(" "))
    if word == "word":
        words = [] if rest is None else rest.split(" ")
        return tuple(words) if len(words) == 2 and all([is_name(part) for part in words]) else None
    if word == "asks":
        return None if rest is None else roots_in(rest.split(" "))
    if word == "most":
        return sizes_in([] if rest is None else rest.split(" "))
    return () if rest is None else None


def text_in(rest):
    return rest.replace(" | ", "\n") + "\n" if rest != "" else None


def row_in(words):
    """The tuple (kind, number, row), or None."""
    number = count_in(words[1]) if len(words) > 1 else None
    table = table_in(words[2:])
    if number is None or table is None or not is_name(words[0]):
        return None
    row = {}
    for name in table:
        if table[name] in VALUES:
            row[name] = VALUES[table[name]]
        else:
            row[name] = count_in(table[name])
            if row[name] is None:
                return None
    return (words[0], number, row)


def roots_in(words):
    """The dict of roots, or None."""
    table = table_in(words)
    if table is None:
        return None
    roots = {}
    for name in table:
        roots[name] = [] if table[name] == "none" else [count_in(part) for part in table[name].split(",")]
        if None in roots[name]:
            return None
    return roots


def sizes_in(words):
    """The list of the tuples (label, name, number), in sequence, or None."""
    rows = []
    seen = {}
    for word in words:
        parts = word.split("=")
        ends = parts[0].split("/")
        if len(parts) != 2 or len(ends) != 2 or ends[0] not in LABELS or not is_name(ends[1]) or parts[0] in seen:
            return None
        seen[parts[0]] = True
        rows.append((ends[0], ends[1], count_in(parts[1])))
        if rows[-1][2] is None:
            return None
    return rows


def table_in(words):
    """From the names of words NAME=VALUE, all different, to their values; None for other words."""
    table = {}
    for word in words:
        parts = word.split("=")
        if len(parts) != 2 or not is_name(parts[0]) or parts[0] in table:
            return None
        table[parts[0]] = parts[1]
    return table


def count_in(text):
    """The number that is written in decimal, without unnecessary zeros, or None."""
    if not text.isascii() or not text.isdigit() or (len(text) > 1 and text[0] == "0"):
        return None
    return int(text)
