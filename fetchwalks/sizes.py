"""Sizes: how many roots finds have at most, and how many members lists have at most."""

from fetchwalks.checks import is_integer
from fetchwalks.errors import InvalidSize, InvalidSizeName, InvalidSizes
from fetchwalks.runs import check_roots
from fetchwalks.schemas import check_same_schema
from fetchwalks.stores import check_store
from fetchwalks.walks import check_walk

LEAST = {"find": 1, "list": 2}


class Sizes:
    def __init__(self, walk):
        check_walk(walk)
        self._walk = walk
        self._numbers = {at: LEAST[at[0]] for at in size_names(walk)}

    @classmethod
    def of(cls, walk, *rows):
        sizes = cls(walk)
        for row in rows:
            if not isinstance(row, tuple) or len(row) != 3:
                raise InvalidSizeName(row)
            label, name, number = row
            sizes[label, name] = number
        return sizes

    @property
    def schema(self):
        return self._walk.schema

    @property
    def numbers(self):
        """The sizes by their names, sorted."""
        return self._numbers

    def __setitem__(self, at, worth):
        label, name = at
        self._check_name(label, name)
        if not is_integer(worth) or not LEAST[label] <= worth <= 10 ** 30:
            raise InvalidSize(worth)
        self._numbers[label, name] = worth

    def __getitem__(self, at):
        label, name = at
        self._check_name(label, name)
        return self._numbers[label, name]

    def __iter__(self):
        raise TypeError("sizes are not iterated over")

    def __eq__(self, other):
        if not isinstance(other, Sizes) or self._walk.schema != other._walk.schema:
            return False
        return self._walk.finds() == other._walk.finds() and self._numbers == other._numbers

    def finds(self):
        return self._walk.finds()

    def names(self):
        return list(self._numbers)

    def copy(self):
        twin = Sizes(self._walk)
        twin._numbers = {at: self._numbers[at] for at in self._numbers}
        return twin

    def fault(self, store, roots):
        check_store(store)
        check_roots(self._walk, store, roots)
        check_same_schema(self._walk.schema, store.schema)
        for label, name in self._numbers:
            most = self._numbers[label, name]
            if label == "find":
                if len(roots[name]) > most:
                    return (label, name)
            else:
                owners = store.crowded(name, most)
                if len(owners) > 0:
                    return (label, name, min(owners))
        return None

    def _check_name(self, label, name):
        if not isinstance(label, str) or not isinstance(name, str) or (label, name) not in self._numbers:
            raise InvalidSizeName((label, name))


def check_sizes(sizes):
    if not isinstance(sizes, Sizes):
        raise InvalidSizes(sizes)


def size_at(links, numbers, place):
    """How many objects there are at a place with each one of the place without its last link, by these sizes."""
    if len(place) == 1:
        return numbers.get(("find", place[0]), 1)
    return size_behind(links, numbers, place[-2] if len(place) > 2 else None, place[-1])


def size_behind(links, numbers, before, link):
    """How many objects a link adds to each place whose last link is before, which it can follow."""
    _, _, back, is_list, single = links[link]
    if not is_list or single:
        return 1
    # Behind its own field a list leads to the other members.
    return numbers["list", link] - 1 if before == back else numbers["list", link]


def size_names(walk):
    """The sorted list of the size names of a walk's schema and finds."""
    links = walk.schema.link_rows
    finds = [("find", name) for name, _, word in walk.finds() if word == "many"]
    return sorted(finds + [("list", link) for link in links if links[link][3] and not links[link][4]])
