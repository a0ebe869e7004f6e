"""Sorting by compare."""

from recordcraft.errors import RecordcraftError
from recordcraft.orders import order_of
from recordcraft.records import compare
from recordcraft.sorts import check_depth


def sorted_values(values, *, by=None, down=False):
    """Returns a list of the values of a list or tuple, or of records by a field, sorted stably."""
    rows = list(values)
    if by is not None:
        rows = [record[by] for record in values]
    if len(rows) < 2:
        return list(values)
    return [values[place] for place in _sorted_places(rows, down)]


def _sorted_places(rows, down):
    """The places of the rows in sorted order."""
    try:
        return _judged_places(rows, down)
    except RecordcraftError:
        # Sorting met some error, which is not always that of the first pair.
        _compare_all(rows)
        raise


def _judged_places(rows, down):
    for row in rows:
        check_depth(row)
    return _merge_sorted(list(range(len(rows))), rows, down)


def _compare_all(rows):
    for first in range(len(rows)):
        for second in range(first + 1, len(rows)):
            compare(rows[first], rows[second])


def _merge_sorted(places, rows, down):
    """The places in sorted order. Places that are neighbors in it were compared.

    If no two neighbors raise an error, no other two rows do: so an error is never missed.
    """
    if len(places) < 2:
        return places
    middle = len(places) // 2
    left = _merge_sorted(places[:middle], rows, down)
    right = _merge_sorted(places[middle:], rows, down)
    merged = []
    taken = 0
    for place in left:
        while taken < len(right) and _is_behind(rows[place], rows[right[taken]], down):
            merged.append(right[taken])
            taken += 1
        merged.append(place)
    return merged + right[taken:]


def _is_behind(one, other, down):
    """Whether a row must stand behind another one that stood behind it so far."""
    order = order_of(one, other)
    return order < 0 if down else order > 0
