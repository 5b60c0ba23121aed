"""Schemas: kinds of objects with their fields, lists and flags."""

from fetchwalks.checks import is_name, is_sequence
from fetchwalks.errors import InvalidFields, InvalidFlags, InvalidKinds, InvalidSchema, OtherSchema
from fetchwalks.errors import UnknownKind, UnknownLink

MOST_KINDS = 6
MOST_FIELDS = 12
MOST_FLAGS = 12


class Schema:
    def __init__(self, kinds, fields, flags=()):
        check_kinds(kinds)
        check_fields(kinds, fields)
        check_flags(kinds, fields, flags)
        self._kinds = sorted(kinds)
        self._fields = {name: fields[name] for name in sorted(fields)}
        self._flags = {name: flags[name] for name in sorted(flags)}
        self._links = link_table(self._fields)

    def kinds(self):
        return list(self._kinds)

    def fields(self):
        return dict(self._fields)

    def flags(self):
        return dict(self._flags)

    def links(self):
        return list(self._links)

    def kind_of(self, link):
        return self._link_row(link)[0]

    def target_of(self, link):
        return self._link_row(link)[1]

    def back_of(self, link):
        return self._link_row(link)[2]

    def is_list(self, link):
        return self._link_row(link)[3]

    def is_single(self, link):
        return self._link_row(link)[4]

    def links_from(self, kind):
        check_kind(self, kind)
        return [link for link in self._links if self._links[link][0] == kind]

    def flags_of(self, kind):
        check_kind(self, kind)
        return [flag for flag in self._flags if self._flags[flag] == kind]

    def fields_of(self, kind):
        """The sorted list of the fields that lead from the kind."""
        return [link for link in self.links_from(kind) if link in self._fields]

    def kind_of_flag(self, flag):
        return self._flags[flag]

    def has_link(self, value):
        return isinstance(value, str) and value in self._links

    def _link_row(self, link):
        if not self.has_link(link):
            raise UnknownLink(link)
        return self._links[link]

    def __eq__(self, other):
        if not isinstance(other, Schema):
            return False
        return self._kinds == other._kinds and self._fields == other._fields and self._flags == other._flags


def link_table(fields):
    """From each link, sorted, to its kind, its target, its link back, and whether it is a list, and single."""
    rows = {}
    for name in fields:
        kind, target, back, single = fields[name]
        rows[name] = (kind, target, back, False, single)
        if back is not None:
            rows[back] = (target, kind, name, True, single)
    return {link: rows[link] for link in sorted(rows)}


def check_kinds(kinds):
    if not is_sequence(kinds) or not 1 <= len(kinds) <= MOST_KINDS:
        raise InvalidKinds(None)
    for position, kind in enumerate(kinds):
        if not is_name(kind) or kind in kinds[:position]:
            raise InvalidKinds(position)


def is_name_table(value, most):
    return isinstance(value, dict) and len(value) <= most and all([is_name(key) for key in value])


def is_one_of(value, kinds):
    return is_name(value) and value in kinds


def is_field_row(value, kinds):
    if not isinstance(value, tuple) or len(value) != 4:
        return False
    kind, target, back, single = value
    if not is_one_of(kind, kinds) or not is_one_of(target, kinds):
        return False
    return (back is None or is_name(back)) and isinstance(single, bool)


def check_fields(kinds, fields):
    if not is_name_table(fields, MOST_FIELDS):
        raise InvalidFields(None)
    lists = []
    for name in sorted(fields):
        if not is_field_row(fields[name], kinds):
            raise InvalidFields(name)
        back = fields[name][2]
        if back in fields or back in lists:
            raise InvalidFields(name)
        if back is not None:
            lists.append(back)


def check_flags(kinds, fields, flags):
    if isinstance(flags, tuple) and len(flags) == 0:
        return
    if not is_name_table(flags, MOST_FLAGS):
        raise InvalidFlags(None)
    links = link_table(fields)
    for name in sorted(flags):
        if name in links or not is_one_of(flags[name], kinds):
            raise InvalidFlags(name)


def check_kind(schema, kind):
    if not is_one_of(kind, schema.kinds()):
        raise UnknownKind(kind)


def check_schema(schema):
    if not isinstance(schema, Schema):
        raise InvalidSchema(schema)


def check_same_schema(one, other):
    if one != other:
        raise OtherSchema()
