"""Stores: tables of objects whose fields lead to one another."""

from fetchwalks.checks import is_id, is_integer, is_sequence
from fetchwalks.errors import InvalidId, InvalidRow, InvalidRows, InvalidStore, RowRefused, TargetTaken
from fetchwalks.errors import TooMany, UnknownLink, UnknownObject, UnknownTarget
from fetchwalks.schemas import check_kind, check_schema

MOST_OBJECTS = 2000


class Store:
    def __init__(self, schema):
        check_schema(schema)
        self._schema = schema
        self._rows = {}
        # From a field and a target to the IDs of the objects whose field leads there: runs ask for them often.
        self._leading = {}

    @property
    def schema(self):
        return self._schema

    def __setitem__(self, at, worth):
        kind, number = at
        check_kind(self._schema, kind)
        if not is_id(number):
            raise InvalidId(number)
        check_row(self._schema, kind, worth)
        self._take({(kind, number): worth})

    def __getitem__(self, at):
        kind, number = at
        if not self._has(kind, number):
            raise UnknownObject(kind, number)
        return dict(self._rows[kind, number])

    def __iter__(self):
        raise TypeError("a store is not iterated over")

    def __iadd__(self, other):
        if not is_sequence(other):
            raise InvalidRows(None)
        fresh = {}
        for position, element in enumerate(other):
            if not is_element(self._schema, element):
                raise InvalidRows(position)
            kind, number, row = element
            # The last row of an object counts, at its own position.
            if (kind, number) in fresh:
                del fresh[kind, number]
            fresh[kind, number] = row
        self._take(fresh)
        return self

    def __contains__(self, x):
        return isinstance(x, tuple) and len(x) == 2 and self._has(x[0], x[1])

    def __len__(self):
        return len(self._rows)

    def __eq__(self, other):
        return isinstance(other, Store) and self._schema == other._schema and self._rows == other._rows

    def ids(self, kind):
        check_kind(self._schema, kind)
        return sorted([number for other, number in self._rows if other == kind])

    def members(self, link, number):
        schema = self._schema
        if not schema.has_link(link) or not schema.is_list(link):
            raise UnknownLink(link)
        if not self._has(schema.kind_of(link), number):
            raise UnknownObject(schema.kind_of(link), number)
        return sorted(self._leading.get((schema.back_of(link), number), {}))

    def rows(self):
        return [(kind, number, dict(self._rows[kind, number])) for kind, number in sorted(self._rows)]

    def copy(self):
        twin = Store(self._schema)
        twin._rows = {at: self._rows[at] for at in self._rows}
        twin._leading = {at: dict(self._leading[at]) for at in self._leading}
        return twin

    def is_true(self, flag, number):
        """Whether the flag of an object of the store is true."""
        return self._rows[self._schema.kind_of_flag(flag), number][flag]

    def ends(self, link, number):
        """The IDs to which a link leads from an object of the store: of its members, or of its target, if any."""
        if self._schema.is_list(link):
            return self.members(link, number)
        target = self._rows[self._schema.kind_of(link), number][link]
        return [] if target is None else [target]

    def _has(self, kind, number):
        return isinstance(kind, str) and is_integer(number) and (kind, number) in self._rows

    def _take(self, fresh):
        added = [at for at in fresh if at not in self._rows]
        if len(self._rows) + len(added) > MOST_OBJECTS:
            raise TooMany("objects", MOST_OBJECTS)
        self._check_targets(fresh)
        for kind, number in fresh:
            self._write(kind, number, fresh[kind, number])

    def _check_targets(self, fresh):
        leading = leading_table(self._schema, fresh)
        for kind, number in fresh:
            row = fresh[kind, number]
            targets = [(field, row[field]) for field in self._schema.fields_of(kind) if row[field] is not None]
            for field, target in targets:
                end = (self._schema.target_of(field), target)
                if end not in self._rows and end not in fresh:
                    raise RowRefused(kind, number) from UnknownTarget(field, target)
            for field, target in targets:
                if self._schema.is_single(field):
                    others = self._others(field, target, number, fresh, leading)
                    if len(others) > 0:
                        raise RowRefused(kind, number) from TargetTaken(field, target, min(others))

    def _others(self, field, target, number, fresh, leading):
        """The IDs of the objects, but for this one, whose field leads to the target with the fresh rows."""
        kind = self._schema.kind_of(field)
        kept = [old for old in self._leading.get((field, target), {}) if (kind, old) not in fresh]
        return [other for other in kept + leading[field, target] if other != number]

    def _write(self, kind, number, row):
        fields = self._schema.fields_of(kind)
        if (kind, number) in self._rows:
            old = self._rows[kind, number]
            for field in fields:
                if old[field] is not None:
                    del self._leading[field, old[field]][number]
        for field in fields:
            if row[field] is not None:
                self._leading.setdefault((field, row[field]), {})[number] = True
        self._rows[kind, number] = {name: row[name] for name in row_names(self._schema, kind)}


def leading_table(schema, rows):
    """From a field and a target to the list of the IDs of those of the rows that lead there."""
    table = {}
    for kind, number in rows:
        row = rows[kind, number]
        for field in schema.fields_of(kind):
            table.setdefault((field, row[field]), []).append(number)
    return table


def row_names(schema, kind):
    return sorted(schema.fields_of(kind) + schema.flags_of(kind))


def has_names(row, names):
    return isinstance(row, dict) and len(row) == len(names) and all([name in row for name in names])


def is_worth(schema, name, value):
    """Whether the value can stand in a row for this field or flag."""
    if schema.has_link(name):
        return value is None or is_id(value)
    return isinstance(value, bool)


def check_row(schema, kind, row):
    names = row_names(schema, kind)
    if not has_names(row, names):
        raise InvalidRow(None)
    for name in names:
        if not is_worth(schema, name, row[name]):
            raise InvalidRow(name)


def is_element(schema, value):
    """Whether the value is a tuple of a kind, an ID and a row that is valid but for its targets."""
    if not isinstance(value, tuple) or len(value) != 3:
        return False
    kind, number, row = value
    if not isinstance(kind, str) or kind not in schema.kinds() or not is_id(number):
        return False
    names = row_names(schema, kind)
    return has_names(row, names) and all([is_worth(schema, name, row[name]) for name in names])


def check_store(store):
    if not isinstance(store, Store):
        raise InvalidStore(store)
