"""Which values can be keys, and which ones are the same key. The values are known not to be too deep."""

from recordcraft.sorts import SIMPLE_SORTS, sort_of


def can_be_key(value):
    """Returns whether a value of any kind is keyable."""
    if type(value) is int or type(value) is str:
        return True
    sort = sort_of(value)
    if sort == "tuple":
        return _can_all_be_keys(value)
    if sort == "record":
        return _can_record_be_key(value)
    return sort in SIMPLE_SORTS


def is_matching(one, other):
    """Returns whether two values, of which it is known that they are keyable, are the same key."""
    if type(one) is type(other) and (type(one) is int or type(one) is str):
        return one == other
    sort = sort_of(one)
    if sort != sort_of(other):
        return False
    if sort == "tuple":
        return _are_items_matching(one, other)
    if sort == "record":
        return _are_records_matching(one, other)
    return one == other


def key_values(record):
    """Returns the values of the fields that count in keys; raises Unset for the first one that is not set."""
    return record.values_of(record.kind.key_names)


def _can_all_be_keys(values):
    # All of them are looked at, since a later one can raise Unset.
    judged = [can_be_key(value) for value in values if type(value) is not int and type(value) is not str]
    return all(judged)


def _can_record_be_key(record):
    if not record.kind.equal:
        return True
    if not record.kind.frozen:
        return False
    return _can_all_be_keys(key_values(record))


def _are_items_matching(one, other):
    if len(one) != len(other):
        return False
    for first, second in zip(one, other):
        if type(first) is int and type(second) is int:
            if first != second:
                return False
        elif not is_matching(first, second):
            return False
    return True


def _are_records_matching(one, other):
    if one.kind != other.kind:
        return False
    if not one.kind.equal:
        return one.is_itself(other)
    return _are_items_matching(key_values(one), key_values(other))
