"""Walks: finds, steps along fields, loops through lists, and tests."""

from fetchwalks.checks import is_path
from fetchwalks.errors import InvalidWalk, NameTaken, NoWalk, OtherFinds, TooMany, UnknownPath, UnknownSpot
from fetchwalks.schemas import check_same_schema, check_schema
from fetchwalks.walkbodies import body_without, check_greatness, path_table, plain_finds
from fetchwalks.walkfaults import MOST_FINDS, walk_fault


class Walk:
    def __init__(self, schema, finds, blocks=()):
        check_schema(schema)
        fault = walk_fault(schema, finds, blocks)
        if fault is not None:
            raise InvalidWalk(fault[0], fault[1])
        check_greatness(finds, blocks)
        self._schema = schema
        self._finds = tuple(finds)
        self._blocks = tuple(blocks)
        self._plain = plain_finds(finds, blocks)
        self._paths = path_table(schema, self._plain)
        self._spots = [path for path in self._paths if self._paths[path][0][0] != "if"]

    @property
    def schema(self):
        return self._schema

    def finds(self):
        return [find[1:4] for find in self._finds]

    def written_out(self):
        return Walk(self._schema, self._plain)

    def spots(self):
        return list(self._spots)

    def loops(self):
        return [path for path in self._spots if self._paths[path][0][0] == "for"]

    def kind_of(self, spot):
        return self._spot_row(spot)[2]

    def route(self, spot):
        return self._spot_row(spot)[3]

    def owner_of(self, spot):
        return self._spot_row(spot)[1]

    def statement(self, path):
        if not self._has_path(path):
            raise UnknownPath(path)
        return self._paths[path][0]

    def without(self, path):
        if not self._has_path(path) or len(path) == 1:
            raise UnknownPath(path)
        return Walk(self._schema, body_without(self._plain, path))

    def paths(self):
        """The sorted list of all paths: of the spots and of the ifs."""
        return list(self._paths)

    def steps_to(self, path):
        """The tuples (path, statement without its body, spot of its x) on the way to a path, from its find on."""
        rows = []
        for length in range(1, len(path) + 1):
            here = path[:length]
            head, owner, _, _ = self._paths[here]
            rows.append((here, head, owner))
        return rows

    def written_finds(self):
        """The list of the finds with their bodies, written out."""
        return list(self._plain)

    def __or__(self, other):
        check_walk(other)
        check_same_schema(self._schema, other._schema)
        names = [find[0] for find in other.finds()]
        both = [find[0] for find in self.finds() if find[0] in names]
        if len(both) > 0:
            raise NameTaken(min(both))
        finds = self._plain + other._plain
        if len(finds) > MOST_FINDS:
            raise TooMany("finds", MOST_FINDS)
        return Walk(self._schema, finds)

    def __add__(self, other):
        check_walk(other)
        check_comparable(self, other)
        finds = [one[:-1] + (one[-1] + two[-1],) for one, two in zip(self._plain, other._plain)]
        return Walk(self._schema, finds)

    def __len__(self):
        return len(self._spots)

    def __contains__(self, x):
        return self._has_path(x) and self._paths[x][0][0] != "if"

    def __eq__(self, other):
        if not isinstance(other, Walk) or self._schema != other._schema:
            return False
        return self._finds == other._finds and self._blocks == other._blocks

    def _has_path(self, value):
        return is_path(value) and value in self._paths

    def _spot_row(self, spot):
        if not self._has_path(spot) or self._paths[spot][0][0] == "if":
            raise UnknownSpot(spot)
        return self._paths[spot]


def check_walk(walk):
    if not isinstance(walk, Walk):
        raise NoWalk(walk)


def check_comparable(one, other):
    check_same_schema(one.schema, other.schema)
    if one.finds() != other.finds():
        raise OtherFinds(one.finds(), other.finds())
