"""The exceptions of the package. Their fields are the very objects that they were created with."""


class RecordcraftError(ValueError):
    """The base class of all exceptions of the package. It is never raised itself."""


class InvalidMember(RecordcraftError):
    """A member breaks a rule of its declaration; the item tells where."""

    def __init__(self, rule, item=None):
        self.rule = rule
        self.item = item


class InvalidKind(RecordcraftError):
    """A kind breaks a rule of its declaration; the item tells where."""

    def __init__(self, rule, item=None):
        self.rule = rule
        self.item = item


class InvalidAnswer(RecordcraftError):
    """A ring that was handed in is not one; the part tells what is wrong with it."""

    def __init__(self, part):
        self.part = part


class TooManyValues(RecordcraftError):
    """More values are given by position than there are parameters for them."""

    def __init__(self, limit):
        self.limit = limit


class UnknownName(RecordcraftError):
    """A value is given by a name that no parameter has."""

    def __init__(self, name):
        self.name = name


class GivenTwice(RecordcraftError):
    """A value is given by position and by name."""

    def __init__(self, name):
        self.name = name


class MissingNames(RecordcraftError):
    """Parameters that need a value have none."""

    def __init__(self, names):
        self.names = names


class NoField(RecordcraftError):
    """A record has no field with this name."""

    def __init__(self, name):
        self.name = name


class Unset(RecordcraftError):
    """A field that is needed is not set."""

    def __init__(self, name):
        self.name = name


class Frozen(RecordcraftError):
    """A field of a frozen record does not accept a new value."""

    def __init__(self, name):
        self.name = name


class NoShared(RecordcraftError):
    """A kind has no shared value with this name."""

    def __init__(self, name):
        self.name = name


class NoMethod(RecordcraftError):
    """A record has no method with this name."""

    def __init__(self, name):
        self.name = name


class NotInLine(RecordcraftError):
    """A value is not a kind in the line of the record's kind."""

    def __init__(self, value):
        self.value = value


class NotOrdered(RecordcraftError):
    """Two values cannot be compared."""


class NotKeyable(RecordcraftError):
    """A value cannot be a key."""


class TooDeep(RecordcraftError):
    """A value has too many levels or too many values in all."""


class NoEntry(RecordcraftError):
    """A shelf has no entry for a value."""

    def __init__(self, value):
        self.value = value


class InvalidBook(RecordcraftError):
    """A book is given what is not a kind, or two kinds with one name."""

    def __init__(self, spot):
        self.spot = spot


class NoKind(RecordcraftError):
    """A book has no kind with this name."""

    def __init__(self, name):
        self.name = name


class InvalidData(RecordcraftError):
    """Plain data cannot be read; the path leads to the invalid part."""

    def __init__(self, path):
        self.path = path


class InvalidName(RecordcraftError):
    """A record is to be added under what is not a name."""

    def __init__(self, value):
        self.value = value


class NameTaken(RecordcraftError):
    """A record with this name is there already."""

    def __init__(self, name):
        self.name = name


class NoRecord(RecordcraftError):
    """There is no record with this name."""

    def __init__(self, name):
        self.name = name


class Duplicate(RecordcraftError):
    """The record with this name would be equal to another one."""

    def __init__(self, name):
        self.name = name


class LimitExceeded(RecordcraftError):
    """There are as many changes as are allowed already."""

    def __init__(self, limit):
        self.limit = limit


class NothingToUndo(RecordcraftError):
    """There is no change that could be undone."""


class ParseError(RecordcraftError):
    """A text of declarations cannot be read at this line and word."""

    def __init__(self, line, word):
        self.line = line
        self.word = word
