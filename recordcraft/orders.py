"""When two values are equal, and which one comes first. The values are known not to be too deep."""

from recordcraft.errors import NotOrdered
from recordcraft.sorts import SIMPLE_SORTS, Fielded, sort_of

ORDERED_SORTS = ("truth", "integer", "text")


def is_equal(one, other):
    """Returns whether two values are equal."""
    # The sorts that occur most often are known by their classes, without a call.
    if type(one) is type(other):
        if type(one) is int or type(one) is str or one is None or type(one) is bool:
            return one == other
        if type(one) is list or type(one) is tuple:
            return len(one) == len(other) and _are_items_equal(one, other)
    if isinstance(one, Fielded):
        return isinstance(other, Fielded) and are_records_equal(one, other)
    sort = sort_of(one)
    if sort != sort_of(other):
        return False
    if sort in SIMPLE_SORTS:
        return one == other
    if sort == "dict":
        return _are_dicts_equal(one, other)
    return sort != "other" and len(one) == len(other) and _are_items_equal(one, other)


def are_records_equal(one, other):
    """Returns whether two records are equal."""
    kind = one.kind
    if kind != other.kind:
        return False
    if not kind.equal:
        return one.is_itself(other)
    one.check_compared(other)
    return _are_items_equal(one.compared_values(), other.compared_values())


def order_of(one, other):
    """Returns -1, 0 or 1, as the first value comes before the other one, is equal to it, or comes behind.

    The first parts that are not equal decide, so that what is behind them is not looked at.
    """
    if type(one) is type(other):
        if type(one) is int or type(one) is str or one is None or type(one) is bool:
            return 0 if one == other else -1 if one < other else 1
        if type(one) is tuple:
            return _order_of_items(one, other)
    if isinstance(one, Fielded) and isinstance(other, Fielded) and one.kind.order:
        return order_of_records(one, other)
    sort = sort_of(one)
    if sort != sort_of(other):
        raise NotOrdered()
    if sort == "tuple":
        return _order_of_items(one, other)
    if is_equal(one, other):
        return 0
    if sort not in ORDERED_SORTS:
        raise NotOrdered()
    return -1 if one < other else 1


def order_of_records(one, other):
    """Returns -1, 0 or 1 for two records, of which the first one has a kind with order."""
    if one.kind != other.kind:
        raise NotOrdered()
    one.check_compared(other)
    return _order_of_items(one.compared_values(), other.compared_values())


def _are_items_equal(one, other):
    for first, second in zip(one, other):
        if type(first) is int and type(second) is int:
            if first != second:
                return False
        elif not is_equal(first, second):
            return False
    return True


def _are_dicts_equal(one, other):
    if len(one) != len(other):
        return False
    for key in one:
        if key not in other:
            return False
    for key in one:
        if not is_equal(one[key], other[key]):
            return False
    return True


def _order_of_items(one, other):
    for first, second in zip(one, other):
        if type(first) is int and type(second) is int:
            order = 0 if first == second else -1 if first < second else 1
        else:
            order = order_of(first, second)
        if order != 0:
            return order
    if len(one) == len(other):
        return 0
    return -1 if len(one) < len(other) else 1
