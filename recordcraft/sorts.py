"""The sorts of values, and when a value is too deep."""

from recordcraft.errors import TooDeep

MAX_LEVELS = 50
MAX_VALUES = 5000
SIMPLE_SORTS = ("none", "truth", "integer", "text")


class Fielded:
    """What records are known by in the files that records.py imports."""

    __slots__ = ()


def sort_of(value):
    """Returns the sort of a value, and "other" for what is not a value."""
    if value is None:
        return "none"
    if isinstance(value, bool):
        return "truth"
    if isinstance(value, int):
        return "integer"
    if isinstance(value, str):
        return "text"
    if isinstance(value, tuple):
        return "tuple"
    if isinstance(value, list):
        return "list"
    if isinstance(value, dict):
        return "dict"
    if isinstance(value, Fielded):
        return "record"
    return "other"


def check_depth(value):
    """Raises TooDeep if a value of any kind has too many levels or too many values in all."""
    level = [value]
    many = 1
    for _ in range(MAX_LEVELS + 1):
        level = _parts_of_all(level, MAX_VALUES - many)
        if not level:
            return
        many = many + len(level)
    raise TooDeep()


def _parts_of_all(values, limit):
    """The parts of these values; raises TooDeep if there are more of them than the limit."""
    found = []
    for value in values:
        parts = _parts_of(value)
        # Counting before gathering keeps this quick where a part occurs very often.
        if len(found) + len(parts) > limit:
            raise TooDeep()
        found.extend(parts)
    return found


def _parts_of(value):
    if isinstance(value, (tuple, list)):
        return value
    if isinstance(value, dict):
        return list(value.values())
    if isinstance(value, Fielded):
        return [part for _, part in value.entries()]
    return ()
