"""When two values are equal, and which one comes first. The values are known not to be too deep."""

from recordcraft.errors import NotOrdered, Unset
from recordcraft.sorts import SIMPLE_SORTS, sort_of

ORDERED_SORTS = ("truth", "integer", "text")


def is_equal(one, other):
    """Returns whether two values are equal."""
    sort = sort_of(one)
    if sort != sort_of(other):
        return False
    if sort in SIMPLE_SORTS:
        return one == other
    if sort == "tuple" or sort == "list":
        return len(one) == len(other) and _are_items_equal(one, other)
    if sort == "dict":
        return _are_dicts_equal(one, other)
    return sort == "record" and _are_records_equal(one, other)


def order_of(one, other):
    """Returns -1, 0 or 1, as the first value comes before the other one, is equal to it, or comes behind."""
    if is_equal(one, other):
        return 0
    return _order_of_unequal(one, other)


def field_values(record, names):
    """Returns the values of these fields; raises Unset for the first one that is not set."""
    return [record[name] for name in names]


def _are_items_equal(one, other):
    for first, second in zip(one, other):
        if not is_equal(first, second):
            return False
    return True


def _are_dicts_equal(one, other):
    if len(one) != len(other):
        return False
    for key in one:
        if key not in other:
            return False
    for key in one:
        if not is_equal(one[key], other[key]):
            return False
    return True


def _are_records_equal(one, other):
    kind = one.kind
    if kind != other.kind:
        return False
    if not kind.equal:
        return one.is_itself(other)
    names = kind.compare_names
    for name in names:
        if name not in one or name not in other:
            raise Unset(name)
    return _are_items_equal(field_values(one, names), field_values(other, names))


def _order_of_unequal(one, other):
    sort = sort_of(one)
    if sort != sort_of(other):
        raise NotOrdered()
    if sort in ORDERED_SORTS:
        return -1 if one < other else 1
    if sort == "tuple":
        return _order_of_items(one, other)
    if sort != "record" or one.kind != other.kind or not one.kind.order:
        raise NotOrdered()
    names = one.kind.compare_names
    return _order_of_items(field_values(one, names), field_values(other, names))


def _order_of_items(one, other):
    for first, second in zip(one, other):
        if not is_equal(first, second):
            return _order_of_unequal(first, second)
    return -1 if len(one) < len(other) else 1
