"""Changes that are not saved yet: sessions that show what the store would show if they were saved."""

from fetchwalks.checks import is_id, is_sequence
from fetchwalks.errors import ChangesRefused, InvalidChange, InvalidValue, NothingToUndo, NotKept, SaveRefused
from fetchwalks.errors import TargetTaken, UnknownLink
from fetchwalks.sessions import Session
from fetchwalks.shown import Shown


class Editor(Session):
    def __init__(self, store, plan=None):
        super().__init__(store, plan)
        self._shown = Shown(self._keeping.source)

    def change(self, kind, number, name, value):
        self._check_change(kind, number, name, value)
        self._shown.take_step([(kind, number, name, value)])

    def __iadd__(self, other):
        if not is_sequence(other):
            raise InvalidChange(None)
        for position, change in enumerate(other):
            if not isinstance(change, tuple) or len(change) != 4:
                raise InvalidChange(position)
        # What is kept does not depend on changes, so all of them can be judged before the first one is made.
        for position, (kind, number, name, value) in enumerate(other):
            try:
                self._check_change(kind, number, name, value)
            except (NotKept, UnknownLink, InvalidValue) as e:
                raise ChangesRefused(position) from e
        self._shown.take_step(other)
        return self

    def shown(self, kind, number):
        self._check_kept(kind, number)
        return self._shown.row(kind, number)

    def members_shown(self, link, number):
        schema = self._keeping.source.schema
        if not schema.has_link(link) or not schema.is_list(link):
            raise UnknownLink(link)
        if not self.keeps_list(link, number):
            return None
        return self._shown.leading_to(schema.back_of(link), number)

    def changed(self):
        return self._shown.differences()

    def undo(self):
        if not self._shown.can_undo():
            raise NothingToUndo()
        self._shown.undo_step()

    def save(self):
        clash = self._shown.clash()
        if clash is not None:
            field, number = clash
            first, second = self._shown.leading_to(field, number)[:2]
            raise SaveRefused(first, second) from TargetTaken(field, number, second)
        self._shown.write()

    def trial(self):
        return EditorTrial(self)

    def copy(self):
        twin = Editor(self._keeping.source)
        twin._keeping = self._keeping.copy()
        twin._shown = self._shown.copy_over(twin._keeping.source)
        return twin

    def shown_copy(self):
        """What is shown, with what can be undone, as it is now."""
        return self._shown.copy_over(self._keeping.source)

    def _view(self):
        return self._shown

    def _check_kept(self, kind, number):
        if not self.keeps(kind, number):
            raise NotKept(kind, number)

    def _check_change(self, kind, number, name, value):
        self._check_kept(kind, number)
        schema = self._keeping.source.schema
        fields, flags, _, _ = schema.shapes[kind]
        if isinstance(name, str) and name in flags:
            if not isinstance(value, bool):
                raise InvalidValue(value)
        elif isinstance(name, str) and name in fields:
            if value is not None and not is_id(value):
                raise InvalidValue(value)
            if value is not None:
                self._check_kept(schema.target_of(name), value)
        else:
            raise UnknownLink(name)


class EditorTrial:
    """Gives an editor for a block, behind which its changes, and what can be undone, are as they were."""

    def __init__(self, editor):
        self.held = editor
        self.saved = None

    def __enter__(self):
        # A trial can be entered once more within itself.
        self.saved = SavedChanges(self.held.shown_copy(), self.saved)
        return self.held

    def __exit__(self, kind, value, trace):
        held = self.held
        held._shown = self.saved.table
        self.saved = self.saved.before


class SavedChanges:
    def __init__(self, table, before):
        self.table = table
        self.before = before


def tried_changes(editor, changes, ask):
    with editor.trial() as held:
        held += changes
        return ask(held)
