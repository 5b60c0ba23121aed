"""Schemas: kinds of objects with their fields, lists and flags."""

from fetchwalks.checks import is_name, is_sequence
from fetchwalks.errors import InvalidFields, InvalidFlags, InvalidKinds, InvalidSchema, OtherSchema
from fetchwalks.errors import UnknownKind, UnknownLink

MOST_KINDS = 6
MOST_FIELDS = 12
MOST_FLAGS = 12


class Schema:
    def __init__(self, kinds, fields, flags=()):
        check_kinds(kinds)
        check_fields(kinds, fields)
        check_flags(kinds, fields, flags)
        self._kinds = sorted(kinds)
        self._fields = {name: fields[name] for name in sorted(fields)}
        self._flags = {name: flags[name] for name in sorted(flags)}
        self._links = link_table(self._fields)
        self._shapes = shape_table(self._kinds, self._links, self._flags)
        self._followers = None
        self._name_bits = None

    def kinds(self):
        return list(self._kinds)

    def fields(self):
        return dict(self._fields)

    def flags(self):
        return dict(self._flags)

    def links(self):
        return list(self._links)

    def kind_of(self, link):
        return self._link_row(link)[0]

    def target_of(self, link):
        return self._link_row(link)[1]

    def back_of(self, link):
        return self._link_row(link)[2]

    def is_list(self, link):
        return self._link_row(link)[3]

    def is_single(self, link):
        return self._link_row(link)[4]

    def links_from(self, kind):
        check_kind(self, kind)
        return list(self._shapes[kind][2])

    def flags_of(self, kind):
        check_kind(self, kind)
        return list(self._shapes[kind][1])

    def has_kind(self, value):
        return isinstance(value, str) and value in self._shapes

    def has_link(self, value):
        return isinstance(value, str) and value in self._links

    @property
    def link_rows(self):
        """From each link, sorted, to (kind, target, link back, whether it is a list, whether it is single)."""
        return self._links

    @property
    def flag_kinds(self):
        """From each flag, sorted, to its kind."""
        return self._flags

    @property
    def shapes(self):
        """From each kind to the tuple of the sorted lists of its fields, its flags, its links, and its row's names."""
        return self._shapes

    @property
    def followers(self):
        """From each link to the sorted list of the links that can follow it."""
        if self._followers is None:
            self._followers = follower_table(self._links)
        return self._followers

    @property
    def name_bits(self):
        """From each link and flag to a bit of its own."""
        if self._name_bits is None:
            self._name_bits = bits_by_name(list(self._links) + list(self._flags))
        return self._name_bits

    def _link_row(self, link):
        if not self.has_link(link):
            raise UnknownLink(link)
        return self._links[link]

    def __eq__(self, other):
        if not isinstance(other, Schema):
            return False
        return self._kinds == other._kinds and self._fields == other._fields and self._flags == other._flags


def link_table(fields):
    """From each link, sorted, to its kind, its target, its link back, and whether it is a list, and single."""
    rows = {}
    for name in fields:
        kind, target, back, single = fields[name]
        rows[name] = (kind, target, back, False, single)
        if back is not None:
            rows[back] = (target, kind, name, True, single)
    return {link: rows[link] for link in sorted(rows)}


def shape_table(kinds, links, flags):
    """From each kind to the tuple of the sorted lists of its fields, its flags, its links, and its row's names."""
    shapes = {}
    for kind in kinds:
        own_links = [link for link in links if links[link][0] == kind]
        own_fields = [link for link in own_links if not links[link][3]]
        own_flags = [flag for flag in flags if flags[flag] == kind]
        shapes[kind] = (own_fields, own_flags, own_links, sorted(own_fields + own_flags))
    return shapes


def follower_table(links):
    """From each link to the sorted list of the links that can follow it."""
    table = {}
    for link in links:
        _, target, back, is_list, single = links[link]
        # Neither a list nor a single field is followed by the link that leads back along it.
        barred = back if is_list or single else None
        table[link] = [other for other in links if links[other][0] == target and other != barred]
    return table


def bits_by_name(names):
    return {name: 1 << at for at, name in enumerate(names)}


def check_kinds(kinds):
    if not is_sequence(kinds) or not 1 <= len(kinds) <= MOST_KINDS:
        raise InvalidKinds(None)
    for position, kind in enumerate(kinds):
        if not is_name(kind) or kind in kinds[:position]:
            raise InvalidKinds(position)


def is_name_table(value, most):
    return isinstance(value, dict) and len(value) <= most and all([is_name(key) for key in value])


def is_one_of(value, kinds):
    return is_name(value) and value in kinds


def is_field_row(value, kinds):
    if not isinstance(value, tuple) or len(value) != 4:
        return False
    kind, target, back, single = value
    if not is_one_of(kind, kinds) or not is_one_of(target, kinds):
        return False
    return (back is None or is_name(back)) and isinstance(single, bool)


def check_fields(kinds, fields):
    if not is_name_table(fields, MOST_FIELDS):
        raise InvalidFields(None)
    lists = []
    for name in sorted(fields):
        if not is_field_row(fields[name], kinds):
            raise InvalidFields(name)
        back = fields[name][2]
        if back in fields or back in lists:
            raise InvalidFields(name)
        if back is not None:
            lists.append(back)


def check_flags(kinds, fields, flags):
    if isinstance(flags, tuple) and len(flags) == 0:
        return
    if not is_name_table(flags, MOST_FLAGS):
        raise InvalidFlags(None)
    links = link_table(fields)
    for name in sorted(flags):
        if name in links or not is_one_of(flags[name], kinds):
            raise InvalidFlags(name)


def check_kind(schema, kind):
    if not schema.has_kind(kind):
        raise UnknownKind(kind)


def check_link(schema, link):
    if not schema.has_link(link):
        raise UnknownLink(link)


def check_schema(schema):
    if not isinstance(schema, Schema):
        raise InvalidSchema(schema)


def check_same_schema(one, other):
    if one != other:
        raise OtherSchema()
