"""Which values can be keys, and which ones are the same key. The values are known not to be too deep."""

from recordcraft.sorts import SIMPLE_SORTS, Fielded, sort_of


def can_be_key(value):
    """Returns whether a value of any kind is keyable."""
    # The sorts that occur most often are known by their classes, without a call.
    if type(value) is int or type(value) is str:
        return True
    if type(value) is tuple:
        return _can_all_be_keys(value)
    if isinstance(value, Fielded):
        return _can_record_be_key(value)
    sort = sort_of(value)
    if sort == "tuple":
        return _can_all_be_keys(value)
    return sort in SIMPLE_SORTS


def is_matching(one, other):
    """Returns whether two values, of which it is known that they are keyable, are the same key."""
    if type(one) is type(other):
        if type(one) is int or type(one) is str:
            return one == other
        if type(one) is tuple:
            return _are_items_matching(one, other)
    if isinstance(one, Fielded):
        return isinstance(other, Fielded) and _are_records_matching(one, other)
    sort = sort_of(one)
    if sort != sort_of(other):
        return False
    if sort == "tuple":
        return _are_items_matching(one, other)
    return one == other


def _can_all_be_keys(values):
    can_all = True
    for value in values:
        # All of them are looked at, since a later one can raise Unset.
        if type(value) is not int and type(value) is not str and not can_be_key(value):
            can_all = False
    return can_all


def _can_record_be_key(record):
    kind = record.kind
    if not kind.equal:
        return True
    return kind.frozen and _can_all_be_keys(record.key_values())


def _are_items_matching(one, other):
    if len(one) != len(other):
        return False
    for first, second in zip(one, other):
        if type(first) is int and type(second) is int:
            if first != second:
                return False
        elif not is_matching(first, second):
            return False
    return True


def _are_records_matching(one, other):
    kind = one.kind
    if kind != other.kind:
        return False
    if not kind.equal:
        return one.is_itself(other)
    return _are_items_matching(one.key_values(), other.key_values())
