"""Plain data of values, and books of kinds, which read it."""

from recordcraft.errors import InvalidBook, InvalidData, NoKind
from recordcraft.kinds import Kind
from recordcraft.records import Record
from recordcraft.sorts import SIMPLE_SORTS, check_depth, sort_of


def plain(value):
    """Returns the plain data of a value."""
    check_depth(value)
    return _plain_of(value)


class Book:
    """Kinds with different names, in an order."""

    def __init__(self, *kinds):
        self._kinds = _by_names(kinds)

    @property
    def kind_names(self):
        """The names of the kinds, in their order."""
        return tuple(self._kinds)

    def read(self, data):
        """Returns the value of plain data of any kind."""
        check_depth(data)
        return self._read_value(data, ())

    def _read_value(self, data, path):
        """The value of data to which this path leads."""
        word = _word_of(data)
        if word == "list":
            return self._read_items(data, path)
        if word == "tuple":
            return tuple(self._read_items(data, path))
        if word == "dict":
            return self._read_entries(data, 1, None, path)
        if word == "record":
            return self._read_fields(data, path)
        if sort_of(data) not in SIMPLE_SORTS:
            raise InvalidData(path)
        return data

    def _read_items(self, data, path):
        items = []
        for place in range(1, len(data)):
            item = data[place]
            if type(item) is not int and type(item) is not str:
                item = self._read_value(item, (*path, place))
            items.append(item)
        return items

    def _read_entries(self, data, start, names, path):
        """The entries from a position on. Their keys are any texts, or some of these names if there are any."""
        values = {}
        for place in range(start, len(data)):
            entry = data[place]
            if not isinstance(entry, list) or len(entry) != 2:
                raise InvalidData((*path, place))
            key = entry[0]
            if not isinstance(key, str) or key in values or (names is not None and key not in names):
                raise InvalidData((*path, place, 0))
            values[key] = self._read_value(entry[1], (*path, place, 1))
        return values

    def _read_fields(self, data, path):
        if len(data) < 2 or data[1] not in self:
            raise InvalidData((*path, 1))
        kind = self[data[1]]
        record = Record(kind, self._read_entries(data, 2, kind.field_names, path))
        record.seal()
        return record

    def __len__(self):
        return len(self._kinds)

    def __contains__(self, name):
        return isinstance(name, str) and name in self._kinds

    def __getitem__(self, name):
        if not isinstance(name, str) or name not in self._kinds:
            raise NoKind(name)
        return self._kinds[name]

    def __iter__(self):
        raise TypeError("a book is not iterated over: take its kind_names")

    def __add__(self, other):
        if not isinstance(other, Book):
            return NotImplemented
        kinds = list(self._kinds.values()) + list(other._kinds.values())
        return Book(*kinds)


def _by_names(kinds):
    """A dict from names to kinds; raises InvalidBook for the first value that is no kind or has a known name."""
    found = {}
    for spot, kind in enumerate(kinds):
        if not isinstance(kind, Kind) or kind.name in found:
            raise InvalidBook(spot)
        found[kind.name] = kind
    return found


def _word_of(data):
    """The word that data of any kind begin with, or None."""
    if isinstance(data, list) and data and isinstance(data[0], str):
        return data[0]
    return None


def _plain_of(value):
    if type(value) is int or type(value) is str:
        return value
    sort = sort_of(value)
    if sort == "tuple" or sort == "list":
        return [sort, *[_plain_of(item) for item in value]]
    if sort == "dict":
        return [sort, *[[key, _plain_of(value[key])] for key in value]]
    if sort == "record":
        return [sort, value.kind.name, *[[name, _plain_of(part)] for name, part in value.entries()]]
    return value
