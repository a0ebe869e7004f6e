"""Copies of records with changes, and deep copies of values."""

from recordcraft.records import Record
from recordcraft.sorts import check_depth, sort_of


def changed(record, **changes):
    """Returns the changed record of a record."""
    return changed_by(record, changes)


def changed_by(record, changes):
    """Returns the changed record of a record, with a dict of changes."""
    kind = record.kind
    named = {field.name: record[field.name] for field in kind.fields if field.init and field.name in record}
    # Changes that are no parameters stand at the end in their order, so that making refuses the first one.
    named.update(changes)
    return kind.build((), named)


def deep_copy(value):
    """Returns a copy of a value in which all lists, dicts, tuples and records are new."""
    check_depth(value)
    return _copy_of(value)


def _copy_of(value):
    if type(value) is int or type(value) is str:
        return value
    sort = sort_of(value)
    if sort == "tuple":
        return tuple([_copy_of(item) for item in value])
    if sort == "list":
        return [_copy_of(item) for item in value]
    if sort == "dict":
        return {key: _copy_of(value[key]) for key in value}
    if sort == "record":
        return _copy_of_record(value)
    return value


def _copy_of_record(record):
    values = {name: _copy_of(value) for name, value in record.entries()}
    new = Record(record.kind, values)
    new.seal()
    return new
