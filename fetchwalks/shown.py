"""What a session with changes shows: its store, but with other rows of the objects that were changed."""


class Shown:
    """Tells what runs ask of a store. Copies share rows and lists: these are never changed, only replaced."""

    def __init__(self, store):
        self._source = store
        self._fresh = {}
        # From a field and a target to the sorted list of the IDs that lead there, where this may have changed.
        self._ends = {}
        # For each step that can be undone the tuples (kind, number, name, value ahead of it), in sequence.
        self._past = []

    def copy_over(self, store):
        """The same changes of a store that is equal."""
        twin = Shown(store)
        twin._fresh = {at: self._fresh[at] for at in self._fresh}
        twin._ends = {end: self._ends[end] for end in self._ends}
        twin._past = list(self._past)
        return twin

    def is_true(self, flag, kind, number):
        if (kind, number) in self._fresh:
            return self._fresh[kind, number][flag]
        return self._source.is_true(flag, kind, number)

    def target(self, field, kind, number):
        if (kind, number) in self._fresh:
            return self._fresh[kind, number][field]
        return self._source.target(field, kind, number)

    def leading_to(self, field, number):
        if (field, number) in self._ends:
            return list(self._ends[field, number])
        return self._source.leading_to(field, number)

    def row(self, kind, number):
        if (kind, number) in self._fresh:
            return dict(self._fresh[kind, number])
        return self._source[kind, number]

    def take_step(self, changes):
        """Makes changes that are right; they are one step."""
        self._past.append([self._put(kind, number, name, value) for kind, number, name, value in changes])

    def can_undo(self):
        return len(self._past) > 0

    def undo_step(self):
        for kind, number, name, value in self._past.pop()[::-1]:
            self._put(kind, number, name, value)

    def differences(self):
        """The sorted list of the tuples (kind, number, name) of what is not as in the store."""
        found = []
        for kind, number in self._fresh:
            row, stored = self._fresh[kind, number], self._source[kind, number]
            found.extend([(kind, number, name) for name in row if row[name] != stored[name]])
        return sorted(found)

    def clash(self):
        """The first tuple (single field, target) of which several objects are shown with this target, or None."""
        links = self._source.schema.link_rows
        # The store alone has none.
        found = [end for end in self._ends if links[end[0]][4] and len(self._ends[end]) > 1]
        return min(found) if len(found) > 0 else None

    def write(self):
        """Writes the changes into the store; behind it there is nothing to undo."""
        self._source.rewrite(self._fresh)
        self._fresh = {}
        self._ends = {}
        self._past = []

    def _put(self, kind, number, name, value):
        """Makes a change, and returns the one that takes it back."""
        row = self.row(kind, number)
        old = row[name]
        self._fresh[kind, number] = {**row, name: value}
        if name in self._source.schema.link_rows and old != value:
            if old is not None:
                self._ends[name, old] = [other for other in self.leading_to(name, old) if other != number]
            if value is not None:
                self._ends[name, value] = sorted(self.leading_to(name, value) + [number])
        return (kind, number, name, old)
