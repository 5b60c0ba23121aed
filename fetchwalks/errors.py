"""All errors of the package, below four base classes.

Each error keeps what it was created with in attributes of the same names.
"""


class FetchError(ValueError):
    """A value that was passed is not valid."""


class InvalidKinds(FetchError):
    def __init__(self, position):
        self.position = position


class InvalidFields(FetchError):
    def __init__(self, name):
        self.name = name


class InvalidFlags(FetchError):
    def __init__(self, name):
        self.name = name


class InvalidSchema(FetchError):
    def __init__(self, value):
        self.value = value


class InvalidId(FetchError):
    def __init__(self, value):
        self.value = value


class InvalidRow(FetchError):
    def __init__(self, name):
        self.name = name


class InvalidRows(FetchError):
    def __init__(self, position):
        self.position = position


class InvalidStore(FetchError):
    def __init__(self, value):
        self.value = value


class InvalidWalk(FetchError):
    def __init__(self, problem, place):
        self.problem = problem
        self.place = place


class NoWalk(FetchError):
    def __init__(self, value):
        self.value = value


class InvalidRoots(FetchError):
    def __init__(self, find):
        self.find = find


class InvalidWord(FetchError):
    def __init__(self, value):
        self.value = value


class InvalidPlan(FetchError):
    def __init__(self, value):
        self.value = value


class InvalidLinks(FetchError):
    def __init__(self, position):
        self.position = position


class InvalidRoute(FetchError):
    def __init__(self, value):
        self.value = value


class InvalidPlace(FetchError):
    def __init__(self, value):
        self.value = value


class InvalidPlaces(FetchError):
    def __init__(self, value):
        self.value = value


class InvalidSizeName(FetchError):
    def __init__(self, value):
        self.value = value


class InvalidSize(FetchError):
    def __init__(self, value):
        self.value = value


class InvalidSizes(FetchError):
    def __init__(self, value):
        self.value = value


class InvalidNumber(FetchError):
    def __init__(self, value):
        self.value = value


class InvalidSum(FetchError):
    def __init__(self, value):
        self.value = value


class InvalidChange(FetchError):
    def __init__(self, position):
        self.position = position


class InvalidValue(FetchError):
    def __init__(self, value):
        self.value = value


class InvalidText(FetchError):
    def __init__(self, line):
        self.line = line


class InvalidClaim(FetchError):
    def __init__(self, value):
        self.value = value


class InvalidCommand(FetchError):
    def __init__(self, value):
        self.value = value


class MissingError(LookupError):
    """What was asked for does not exist."""


class UnknownKind(MissingError):
    def __init__(self, value):
        self.value = value


class UnknownLink(MissingError):
    def __init__(self, value):
        self.value = value


class UnknownObject(MissingError):
    def __init__(self, kind, number):
        self.kind = kind
        self.number = number


class UnknownTarget(MissingError):
    def __init__(self, field, number):
        self.field = field
        self.number = number


class UnknownSpot(MissingError):
    def __init__(self, value):
        self.value = value


class UnknownPath(MissingError):
    def __init__(self, value):
        self.value = value


class UnknownFind(MissingError):
    def __init__(self, value):
        self.value = value


class UnknownName(MissingError):
    def __init__(self, value):
        self.value = value


class StateError(RuntimeError):
    """What was asked for cannot be done as things stand."""


class TargetTaken(StateError):
    def __init__(self, field, number, by):
        self.field = field
        self.number = number
        self.by = by


class RowRefused(StateError):
    def __init__(self, kind, number):
        self.kind = kind
        self.number = number


class LinkRing(StateError):
    def __init__(self, ring):
        self.ring = ring


class WordRefused(StateError):
    def __init__(self, link, word):
        self.link = link
        self.word = word


class OtherSchema(StateError):
    def __init__(self):
        pass


class OtherFinds(StateError):
    def __init__(self, one, other):
        self.one = one
        self.other = other


class NameTaken(StateError):
    def __init__(self, name):
        self.name = name


class NotKept(StateError):
    def __init__(self, kind, number):
        self.kind = kind
        self.number = number


class ChangesRefused(StateError):
    def __init__(self, position):
        self.position = position


class SaveRefused(StateError):
    def __init__(self, first, second):
        self.first = first
        self.second = second


class NothingToUndo(StateError):
    def __init__(self):
        pass


class CommandFailed(StateError):
    def __init__(self, position):
        self.position = position


class LimitError(ArithmeticError):
    """A limit would be passed."""


class TooMany(LimitError):
    def __init__(self, what, limit):
        self.what = what
        self.limit = limit
