"""A desk, which keeps schemas, stores, walks and plans by names, and performs commands."""

from fetchwalks.commands import SORTS, command_parts
from fetchwalks.early import must
from fetchwalks.errors import CommandFailed, FetchError, LimitError, MissingError, NameTaken, NothingToUndo
from fetchwalks.errors import StateError, UnknownName
from fetchwalks.free import asked_and_kept
from fetchwalks.numbers import most
from fetchwalks.places import touched_places
from fetchwalks.sizes import Sizes
from fetchwalks.stores import Store
from fetchwalks.texts import read_plan, read_schema, read_walk
from fetchwalks.walkpairs import is_within
from fetchwalks.words import route_text

QUESTIONS = ("asks", "most", "must", "within", "places")


class Desk:
    def __init__(self):
        # From each name to the tuple (sort, thing). Neither the dict nor a thing is ever changed, only replaced.
        self._table = {}
        # The commands that can be taken back, each with the table ahead of it.
        self._past = []

    def do(self, command):
        word, names, told = command_parts(command)
        things = self._things_by(names, SORTS[word])
        if word in QUESTIONS:
            return answer_to(word, things, told)
        if word == "undo":
            self.undo()
            return "done"
        table = dict(self._table)
        if word == "drop":
            del table[names[0]]
        else:
            table[names[0]] = made_by(word, things, told)
        self._past.append((command, self._table))
        self._table = table
        return "done"

    def do_all(self, *commands):
        table, past = self._table, list(self._past)
        answers = []
        for position, command in enumerate(commands):
            try:
                answers.append(self.do(command))
            except (FetchError, MissingError, StateError, LimitError) as e:
                self._table = table
                self._past = past
                raise CommandFailed(position) from e
        return answers

    def undo(self):
        if len(self._past) == 0:
            raise NothingToUndo()
        _, self._table = self._past.pop()

    def names(self):
        return sorted(self._table)

    def named(self, name):
        if name not in self:
            raise UnknownName(name)
        sort, thing = self._table[name]
        return thing.copy() if sort in ("store", "plan") else thing

    def log(self):
        return [command for command, _ in self._past]

    def __len__(self):
        return len(self._table)

    def __contains__(self, x):
        return isinstance(x, str) and x in self._table

    def _things_by(self, names, sorts):
        """The list of the things with the names that must be in use, for each name its sort."""
        if "new" in sorts and names[0] in self._table:
            raise NameTaken(names[0])
        things = []
        for name, sort in zip(names, sorts):
            if sort != "new":
                found, thing = self._table.get(name, (None, None))
                if found is None or (sort != "thing" and sort != found):
                    raise UnknownName(name)
                things.append(thing)
        return things


def made_by(word, things, told):
    """The tuple of the sort and the thing that a command makes, or puts in the place of one."""
    if word == "schema":
        return (word, read_schema(told))
    if word == "walk":
        return (word, read_walk(things[0], told))
    if word == "plan":
        return (word, read_plan(things[0], told))
    if word == "store":
        return (word, Store(things[0]))
    twin = things[0].copy()
    if word == "row":
        kind, number, row = told
        twin[kind, number] = row
        return ("store", twin)
    link, chosen = told
    twin[link] = chosen
    return ("plan", twin)


def answer_to(word, things, told):
    if word == "asks":
        walk, plan, store = things
        return str(asked_and_kept(walk, plan, store, told)[0])
    if word == "most":
        walk, plan = things
        sizes = Sizes(walk)
        for label, name, number in told:
            sizes[label, name] = number
        return str(most(walk, plan)(sizes))
    if word == "must":
        return joined(must(things[0]))
    if word == "within":
        return "yes" if is_within(things[0], things[1]) else "no"
    return joined([route_text(place) for place in touched_places(things[0]).rows()])


def joined(parts):
    return " ".join(parts) if len(parts) > 0 else "-"
