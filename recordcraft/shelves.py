"""Shelves: entries for keyable values."""

from recordcraft.errors import NoEntry, NotKeyable
from recordcraft.keyed import is_matching
from recordcraft.records import are_equal, is_keyable
from recordcraft.sorts import sort_of


class Shelf:
    """Has one entry for all values that are the same key, in the order in which their keys were kept first."""

    def __init__(self):
        # Each key has a number. A mark has the numbers of all keys that it belongs to.
        self._last_number = 0
        self._kept = {}
        self._entries = {}
        self._marks = {}

    def keep(self, value, entry):
        """Gives a value this entry."""
        number = self._number_of(value)
        if number is None:
            self._last_number += 1
            number = self._last_number
            self._kept[number] = value
            self._marks.setdefault(_mark_of(value), []).append(number)
        self._entries[number] = entry

    def take(self, value):
        """Takes the entry of a value away and returns it."""
        number = self._number_of(value)
        if number is None:
            raise NoEntry(value)
        mark = _mark_of(value)
        self._marks[mark].remove(number)
        if not self._marks[mark]:
            del self._marks[mark]
        del self._kept[number]
        return self._entries.pop(number)

    def pairs(self):
        """Yields the keys and entries in their order."""
        for number in list(self._kept):
            yield (self._kept[number], self._entries[number])

    def _number_of(self, value):
        """The number of a value of any kind, or None if it has no entry."""
        if not is_keyable(value):
            raise NotKeyable()
        return self._find_number(value)

    def _find_number(self, value):
        for number in self._marks.get(_mark_of(value), []):
            if is_matching(self._kept[number], value):
                return number
        return None

    def __contains__(self, value):
        return is_keyable(value) and self._find_number(value) is not None

    def __getitem__(self, value):
        number = self._number_of(value)
        if number is None:
            raise NoEntry(value)
        return self._entries[number]

    def __iter__(self):
        raise TypeError("a shelf is not iterated over: take its pairs()")

    def __len__(self):
        return len(self._kept)

    def __bool__(self):
        return bool(self._kept)

    def __eq__(self, other):
        if not isinstance(other, Shelf):
            return False
        return len(self._kept) == len(other._kept) and self._has_entries_of(other)

    def _has_entries_of(self, other):
        """Whether every key has an equal entry in the other shelf."""
        for number in self._kept:
            found = other._find_number(self._kept[number])
            if found is None or not are_equal(self._entries[number], other._entries[found]):
                return False
        return True


def _mark_of(value):
    """A text that is the same for all values that are the same key; other values can have it, too."""
    sort = sort_of(value)
    if sort == "tuple":
        return _mark_of_parts("", value)
    if sort != "record":
        return f"{sort} {value}"
    if value.kind.equal:
        return _mark_of_parts(value.kind.name, value.key_values())
    return value.kind.name


def _mark_of_parts(name, values):
    inside = ", ".join([_mark_of(value) for value in values])
    return f"{name}({inside})"
