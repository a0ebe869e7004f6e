"""Workshops: records with names, and a log of changes that can be undone."""

from recordcraft.errors import Duplicate, InvalidName, LimitExceeded, NameTaken, NoRecord, NothingToUndo
from recordcraft.errors import RecordcraftError
from recordcraft.names import is_name
from recordcraft.records import are_equal


class Workshop:
    """Has records with names, which are made from the kinds of a book."""

    MAX_CHANGES = 60

    def __init__(self, book):
        self._book = book
        # A change takes a new dict of records, so that undoing it can take the old one again.
        self._named = {}
        # Each change with the dict before it, and, if a field was filled, with the record and the state of the field.
        self._changes = []

    @property
    def record_names(self):
        """The names of the records, in the order in which they were added."""
        return tuple(self._named)

    @property
    def log(self):
        """The changes that have not been undone."""
        return tuple([change[0] for change in self._changes])

    def add(self, name, kind, values=(), named=None):
        """Adds a record of the kind with this name."""
        self._add(name, kind, values, named, False)

    def fill(self, name, field, value):
        """Puts a value into a field of a record."""
        self._fill(name, field, value, False)

    def drop(self, name):
        """Takes a record away."""
        if name not in self:
            raise NoRecord(name)
        self._check_limit()
        self._changes.append((("drop", name), self._named, None, ()))
        self._named = {other: self._named[other] for other in self._named if other != name}

    def undo(self):
        """Undoes the latest change."""
        if not self._changes:
            raise NothingToUndo()
        change, before, record, state = self._changes.pop()
        self._named = before
        if record is not None:
            record.put_back(change[2], state)

    def clash(self, kind, values=(), named=None):
        """Returns the name of the first record that is equal to a record made in this way, or None."""
        return self._find_equal(self._made(kind, values, named), list(self._named))

    def _add(self, name, kind, values, named, is_distinct):
        if not is_name(name):
            raise InvalidName(name)
        if name in self._named:
            raise NameTaken(name)
        record = self._made(kind, values, named)
        if is_distinct:
            self._check_distinct(record, list(self._named))
        self._check_limit()
        self._changes.append((("add", name), self._named, None, ()))
        self._named = {**self._named, name: record}

    def _fill(self, name, field, value, is_distinct):
        record = self[name]
        state = record.state_of(field)
        record.put(field, value)
        # Records can contain each other, so they are compared while the new value is in its place.
        try:
            if is_distinct:
                self._check_distinct(record, [other for other in self._named if other != name])
            self._check_limit()
        except RecordcraftError:
            record.put_back(field, state)
            raise
        self._changes.append((("fill", name, field), self._named, record, state))

    def _made(self, kind, values, named):
        chosen = self._book[kind]
        return chosen.build(values, {} if named is None else named)

    def _find_equal(self, record, names):
        """The first of these names of which the record is equal to this one, or None."""
        for name in names:
            if are_equal(self._named[name], record):
                return name
        return None

    def _check_distinct(self, record, names):
        name = self._find_equal(record, names)
        if name is not None:
            raise Duplicate(name)

    def _check_limit(self):
        if len(self._changes) >= self.MAX_CHANGES:
            raise LimitExceeded(self.MAX_CHANGES)

    def __len__(self):
        return len(self._named)

    def __contains__(self, name):
        return isinstance(name, str) and name in self._named

    def __getitem__(self, name):
        if not isinstance(name, str) or name not in self._named:
            raise NoRecord(name)
        return self._named[name]

    def __iter__(self):
        raise TypeError("a workshop is not iterated over: take its record_names")


class DistinctWorkshop(Workshop):
    """A workshop that refuses a change after which two of its records would be equal."""

    def __init__(self, book):
        super().__init__(book)

    def add(self, name, kind, values=(), named=None):
        """Adds a record of the kind with this name, if no other record is equal to it."""
        self._add(name, kind, values, named, True)

    def fill(self, name, field, value):
        """Puts a value into a field of a record, if no other record is equal to it then."""
        self._fill(name, field, value, True)
