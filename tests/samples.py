"""Schemas, stores and values that several tests use."""

from fetchwalks.schemas import Schema
from fetchwalks.stores import Store

# Values of many kinds, none of which is a name, an ID, a path or an object of the package.
ODD = [None, True, False, 0, -1, "", "A", "a b", "abcdefghi", "a1", "x.y", b"a"]
ODD += [[], ["a"], {}, {"a": 1}, (), ("a",), ((),), [[]], [{}], object()]


def shop_schema():
    return Schema(
        ["order", "customer", "shop"],
        {"buyer": ("order", "customer", "orders", False), "place": ("order", "shop", None, False)},
    )


def rich_schema():
    """All sorts of links: with and without lists, single ones, and fields from a kind to itself."""
    return Schema(
        ["a", "b"],
        {
            "f": ("a", "b", "l", False),
            "g": ("a", "b", "m", True),
            "h": ("a", "b", None, True),
            "i": ("b", "a", None, False),
            "p": ("a", "a", "k", False),
            "q": ("a", "a", "n", True),
        },
        {"u": "a", "v": "a", "w": "b"},
    )


def row_a(**values):
    row = {"f": None, "g": None, "h": None, "p": None, "q": None, "u": False, "v": False}
    row.update(values)
    return row


def row_b(**values):
    row = {"i": None, "w": False}
    row.update(values)
    return row


def rich_store():
    store = Store(rich_schema())
    store += [
        ("a", 1, row_a(f=1, g=1, p=1, u=True)),
        ("a", 2, row_a(f=1, p=1, q=1)),
        ("a", 3, row_a(f=2, g=2, v=True)),
        ("b", 1, row_b(i=3, w=True)),
        ("b", 2, row_b()),
    ]
    return store


def layered_schema():
    """Kinds one behind another: by the fields that are not p or q, 19 places are behind one of kind a."""
    fields = {"p": ("a", "a", None, False), "q": ("a", "a", None, False), "f": ("a", "b", "m", True)}
    fields.update({name: ("b", "c", None, False) for name in "gh"})
    fields.update({name: ("c", "d", None, False) for name in "ij"})
    fields.update({name: ("d", "e", None, False) for name in "kln"})
    return Schema(["a", "b", "c", "d", "e"], fields)


def layered_words(word):
    """Words for a plan of the schema above that makes all these places kept ones."""
    return {name: word for name in "fghijkln"}


def tree_body(many):
    """Steps by p and q from x to so many different places, itself among them."""
    ways = [""]
    while len(ways) < many:
        way = ways[(len(ways) - 1) // 2]
        ways.append(way + ("p" if len(ways) % 2 else "q"))

    def body(way):
        x = "vwyzabc"[len(way) - 1] if way else "x"
        rows = [("go", x, letter, "vwyzabc"[len(way)], body(way + letter)) for letter in "pq" if way + letter in ways]
        return tuple(rows)

    return body("")
