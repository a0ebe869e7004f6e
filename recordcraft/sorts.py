"""The sorts of values, and when a value is too deep."""

from recordcraft.errors import TooDeep

MAX_LEVELS = 50
MAX_VALUES = 5000
# Where a level gets more values than this, it is looked first whether there are too many levels below it.
WIDE = 50
SIMPLE_SORTS = ("none", "truth", "integer", "text")


class Fielded:
    """What records are known by in the files that records.py imports."""

    __slots__ = ()


def sort_of(value):
    """Returns the sort of a value, and "other" for what is not a value."""
    if type(value) is tuple:
        return "tuple"
    if type(value) is list:
        return "list"
    if isinstance(value, Fielded):
        return "record"
    if value is None:
        return "none"
    if isinstance(value, bool):
        return "truth"
    if isinstance(value, int):
        return "integer"
    if isinstance(value, str):
        return "text"
    return _sort_of_others(value)


def _sort_of_others(value):
    if isinstance(value, dict):
        return "dict"
    if isinstance(value, tuple):
        return "tuple"
    if isinstance(value, list):
        return "list"
    return "other"


def check_depth(value):
    """Raises TooDeep if a value of any kind has too many levels or too many values in all."""
    # This is asked of every value, so what has no parts is known by its class, without a call.
    if type(value) is int or type(value) is str or value is None or type(value) is bool:
        return
    parts = _parts_of(value)
    if len(parts) >= MAX_VALUES:
        raise TooDeep()
    for part in parts:
        if type(part) is not int and type(part) is not str and part is not None and type(part) is not bool:
            _check_levels(parts, 1 + len(parts))
            return


def _check_levels(level, many):
    """Raises TooDeep if there are too many levels from the parts of a value on, or too many values."""
    for number in range(2, MAX_LEVELS + 2):
        found = []
        for part in level:
            if type(part) is list or type(part) is tuple:
                row = part
            elif type(part) is dict:
                row = list(part.values())
            elif type(part) is int or type(part) is str or part is None or type(part) is bool:
                continue
            elif isinstance(part, Fielded):
                row = part.parts()
            else:
                row = _parts_of(part)
            # Counting before gathering keeps this quick where a part occurs very often.
            many = many + len(row)
            if many > MAX_VALUES:
                raise TooDeep()
            found.extend(row)
        if not found:
            return
        if len(found) > WIDE >= len(level):
            _check_first_parts(found, number)
        level = found
    raise TooDeep()


def _check_first_parts(level, number):
    """Raises TooDeep if there are too many levels below the first parts from the level with this number on.

    Where parts have parts twice, the number of levels is known here long before all values are counted.
    """
    for _ in range(number, MAX_LEVELS + 1):
        level = _parts_of(level[0])
        if len(level) == 0:
            return
    raise TooDeep()


def _parts_of(value):
    if type(value) is list or type(value) is tuple:
        return value
    if isinstance(value, Fielded):
        return value.parts()
    if isinstance(value, dict):
        return list(value.values())
    if isinstance(value, (tuple, list)):
        return value
    return ()
