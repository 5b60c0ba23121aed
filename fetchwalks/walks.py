"""Walks: finds, steps along fields, loops through lists, and tests."""

from fetchwalks.checks import is_path
from fetchwalks.errors import NameTaken, NoWalk, OtherFinds, TooMany, UnknownPath, UnknownSpot
from fetchwalks.memory import Memory
from fetchwalks.schemas import check_same_schema, check_schema
from fetchwalks.walkbodies import body_without, path_table, program_of, written_finds
from fetchwalks.walkfaults import MOST_FINDS, check_greatness, checked_sizes, joined_size


class Walk:
    def __init__(self, schema, finds, blocks=()):
        check_schema(schema)
        self._sizes = checked_sizes(schema, finds, blocks)
        check_greatness(self._sizes)
        self._schema = schema
        self._finds = tuple(finds)
        self._blocks = tuple(blocks)
        # Worked out when it is asked for: many walks are only put together with others.
        self._plain_finds = None
        self._path_rows = None
        self._program = None
        self._memory = Memory()

    @property
    def schema(self):
        return self._schema

    @property
    def memory(self):
        return self._memory

    @property
    def find_rows(self):
        """The tuple of the finds as they were passed."""
        return self._finds

    @property
    def block_rows(self):
        """The tuple of the blocks as they were passed."""
        return self._blocks

    @property
    def plain_finds(self):
        """The tuple of the finds with their bodies, written out."""
        if self._plain_finds is None:
            self._plain_finds = written_finds(self._finds, self._blocks)
        return self._plain_finds

    @property
    def path_rows(self):
        """From each path, sorted, to (statement without body, spot of its x, kind of its variable, route)."""
        if self._path_rows is None:
            self._path_rows = path_table(self._schema, self.plain_finds)
        return self._path_rows

    @property
    def program(self):
        """The list of the rows by which it is run."""
        if self._program is None:
            self._program = program_of(self._schema.link_rows, self.path_rows)
        return self._program

    def finds(self):
        return [find[1:4] for find in self._finds]

    def kind_of_find(self, name):
        """The kind of a find, or None for a name that no find has."""
        kinds = [find[2] for find in self._finds if find[1] == name]
        return kinds[0] if len(kinds) > 0 else None

    def written_out(self):
        return right_walk(self._schema, self.plain_finds, self._sizes)

    def spots(self):
        rows = self.path_rows
        return [path for path in rows if rows[path][3] is not None]

    def loops(self):
        rows = self.path_rows
        return [path for path in rows if rows[path][0][0] == "for"]

    def kind_of(self, spot):
        return self._spot_row(spot)[2]

    def route(self, spot):
        return self._spot_row(spot)[3]

    def owner_of(self, spot):
        return self._spot_row(spot)[1]

    def statement(self, path):
        if not self._has_path(path):
            raise UnknownPath(path)
        return self.path_rows[path][0]

    def without(self, path):
        if not self._has_path(path) or len(path) == 1:
            raise UnknownPath(path)
        return Walk(self._schema, body_without(self.plain_finds, path))

    def paths(self):
        """The sorted list of all paths: of the spots and of the ifs."""
        return list(self.path_rows)

    def steps_to(self, path):
        """The steps that lie within one another on the way to a path, with its own."""
        steps = []
        for length in range(1, len(path) + 1):
            head, owner, _, _ = self.path_rows[path[:length]]
            steps.append((head[0], head[2], None if owner is None else len(owner) - 1))
        return tuple(steps)

    def __or__(self, other):
        check_walk(other)
        check_same_schema(self._schema, other._schema)
        names = [find[0] for find in other.finds()]
        both = [find[0] for find in self.finds() if find[0] in names]
        if len(both) > 0:
            raise NameTaken(min(both))
        finds = self.plain_finds + other.plain_finds
        if len(finds) > MOST_FINDS:
            raise TooMany("finds", MOST_FINDS)
        return right_walk(self._schema, finds, self._sizes + other._sizes)

    def __add__(self, other):
        check_walk(other)
        check_comparable(self, other)
        finds = [one[:-1] + (one[-1] + two[-1],) for one, two in zip(self.plain_finds, other.plain_finds)]
        sizes = [joined_size([one, two]) for one, two in zip(self._sizes, other._sizes)]
        return right_walk(self._schema, finds, sizes)

    def __len__(self):
        return len(self.spots())

    def __contains__(self, x):
        return self._has_path(x) and self.path_rows[x][3] is not None

    def __eq__(self, other):
        if not isinstance(other, Walk) or self._schema != other._schema:
            return False
        return self._finds == other._finds and self._blocks == other._blocks

    def _has_path(self, value):
        return is_path(value) and value in self.path_rows

    def _spot_row(self, spot):
        if not self._has_path(spot) or self.path_rows[spot][3] is None:
            raise UnknownSpot(spot)
        return self.path_rows[spot]


def right_walk(schema, finds, sizes):
    """The walk of finds that are right, written out and of these sizes; only its greatness is looked at."""
    check_greatness(sizes)
    made = Walk(schema, [find[:-1] + ((),) for find in finds])
    made._finds = tuple(finds)
    made._sizes = sizes
    return made


def check_walk(walk):
    if not isinstance(walk, Walk):
        raise NoWalk(walk)


def check_comparable(one, other):
    check_same_schema(one.schema, other.schema)
    if one.finds() != other.finds():
        raise OtherFinds(one.finds(), other.finds())
