"""Stores: tables of objects whose fields lead to one another."""

from fetchwalks.checks import is_id, is_integer, is_sequence
from fetchwalks.errors import InvalidId, InvalidRow, InvalidRows, InvalidStore, RowRefused, TargetTaken
from fetchwalks.errors import TooMany, UnknownLink, UnknownObject, UnknownTarget
from fetchwalks.schemas import check_kind, check_schema

MOST_OBJECTS = 2000


class Store:
    def __init__(self, schema):
        check_schema(schema)
        self._schema = schema
        # Neither the rows nor the lists of members are ever changed, only replaced: copies share them.
        self._rows = {}
        # From a field and a target to the sorted list of the IDs of the objects whose field leads there.
        self._leading = {}

    @property
    def schema(self):
        return self._schema

    def __setitem__(self, at, worth):
        kind, number = at
        check_kind(self._schema, kind)
        if not is_id(number):
            raise InvalidId(number)
        check_row(self._schema.shapes[kind], worth)
        self._take({(kind, number): worth})

    def __getitem__(self, at):
        kind, number = at
        if not self._has(kind, number):
            raise UnknownObject(kind, number)
        return dict(self._rows[kind, number])

    def __iter__(self):
        raise TypeError("a store is not iterated over")

    def __iadd__(self, other):
        if not is_sequence(other):
            raise InvalidRows(None)
        shapes = self._schema.shapes
        fresh = {}
        for position, element in enumerate(other):
            if not is_element(shapes, element):
                raise InvalidRows(position)
            kind, number, row = element
            at = (kind, number)
            # The last row of an object counts, at its own position.
            if at in fresh:
                del fresh[at]
            fresh[at] = row
        self._take(fresh)
        return self

    def __contains__(self, x):
        return isinstance(x, tuple) and len(x) == 2 and self._has(x[0], x[1])

    def __len__(self):
        return len(self._rows)

    def __eq__(self, other):
        return isinstance(other, Store) and self._schema == other._schema and self._rows == other._rows

    def ids(self, kind):
        check_kind(self._schema, kind)
        return sorted([number for other, number in self._rows if other == kind])

    def members(self, link, number):
        schema = self._schema
        if not schema.has_link(link) or not schema.is_list(link):
            raise UnknownLink(link)
        if not self._has(schema.kind_of(link), number):
            raise UnknownObject(schema.kind_of(link), number)
        return list(self._leading.get((schema.back_of(link), number), ()))

    def rows(self):
        return [(kind, number, dict(self._rows[kind, number])) for kind, number in sorted(self._rows)]

    def copy(self):
        twin = Store(self._schema)
        twin._rows = {at: self._rows[at] for at in self._rows}
        twin._leading = {end: self._leading[end] for end in self._leading}
        return twin

    def is_true(self, flag, kind, number):
        """Whether the flag of an object of the store is true."""
        return self._rows[kind, number][flag]

    def target(self, field, kind, number):
        """The ID to which the field of an object of the store leads, or None."""
        return self._rows[kind, number][field]

    def leading_to(self, field, number):
        """The IDs, ascending, of the objects whose field leads to this one."""
        return list(self._leading.get((field, number), ()))

    def crowded(self, link, most):
        """The IDs of the objects that have more members than this by a list."""
        back = self._schema.back_of(link)
        return [end for field, end in self._leading if field == back and len(self._leading[field, end]) > most]

    def rewrite(self, fresh):
        """Takes over other rows of objects of the store, which are right."""
        self._lead(fresh, list(fresh))
        for at in fresh:
            self._rows[at] = fresh[at]

    def _has(self, kind, number):
        return isinstance(kind, str) and is_integer(number) and (kind, number) in self._rows

    def _take(self, fresh):
        rows, shapes = self._rows, self._schema.shapes
        added = [at for at in fresh if at not in rows]
        if len(rows) + len(added) > MOST_OBJECTS:
            raise TooMany("objects", MOST_OBJECTS)
        linked = [at for at in fresh if len(shapes[at[0]][0]) > 0]
        self._check_targets(fresh, linked)
        self._lead(fresh, linked)
        for at in fresh:
            row = fresh[at]
            rows[at] = {name: row[name] for name in shapes[at[0]][3]}

    def _check_targets(self, fresh, linked):
        links = self._schema.link_rows
        leading = None
        for kind, number in linked:
            row = fresh[kind, number]
            targets = [(field, row[field]) for field in self._schema.shapes[kind][0] if row[field] is not None]
            for field, target in targets:
                end = (links[field][1], target)
                if end not in self._rows and end not in fresh:
                    raise RowRefused(kind, number) from UnknownTarget(field, target)
            for field, target in targets:
                if links[field][4]:
                    leading = single_ends(self._schema, fresh) if leading is None else leading
                    others = self._others(field, target, number, fresh, leading)
                    if len(others) > 0:
                        raise RowRefused(kind, number) from TargetTaken(field, target, min(others))

    def _others(self, field, target, number, fresh, leading):
        """The IDs of the objects, but for this one, whose field leads to the target with the fresh rows."""
        kind = self._schema.kind_of(field)
        kept = [old for old in self._leading.get((field, target), ()) if (kind, old) not in fresh]
        return [other for other in kept + leading[field, target] if other != number]

    def _lead(self, fresh, linked):
        """Brings the lists of members up to date with the fresh rows of objects that have fields."""
        changed = {}
        for at in linked:
            kind, number = at
            new, old = fresh[at], self._rows.get(at)
            for field in self._schema.shapes[kind][0]:
                if old is not None and old[field] is not None:
                    changed.setdefault((field, old[field]), {})[number] = False
                if new[field] is not None:
                    changed.setdefault((field, new[field]), {})[number] = True
        for end in changed:
            moved = changed[end]
            stay = [number for number in self._leading.get(end, ()) if number not in moved]
            self._leading[end] = sorted(stay + [number for number in moved if moved[number]])


def single_ends(schema, rows):
    """From a single field and a target to the list of the IDs of those of the rows that lead there."""
    table = {}
    for kind, number in rows:
        row = rows[kind, number]
        for field in schema.shapes[kind][0]:
            if schema.is_single(field):
                table.setdefault((field, row[field]), []).append(number)
    return table


def has_names(row, names):
    if not isinstance(row, dict) or len(row) != len(names):
        return False
    for name in names:
        if name not in row:
            return False
    return True


def is_target(value):
    return value is None or is_id(value)


def check_row(shape, row):
    fields, _, _, names = shape
    if not has_names(row, names):
        raise InvalidRow(None)
    for name in names:
        right = is_target(row[name]) if name in fields else isinstance(row[name], bool)
        if not right:
            raise InvalidRow(name)


def is_element(shapes, value):
    """Whether the value is a tuple of a kind, an ID and a row that is valid but for its targets."""
    if not isinstance(value, tuple) or len(value) != 3:
        return False
    kind, number, row = value
    if not isinstance(kind, str) or kind not in shapes or not is_id(number):
        return False
    fields, flags, _, names = shapes[kind]
    if not has_names(row, names):
        return False
    for name in fields:
        if not is_target(row[name]):
            return False
    for name in flags:
        if not isinstance(row[name], bool):
            return False
    return True


def check_store(store):
    if not isinstance(store, Store):
        raise InvalidStore(store)
