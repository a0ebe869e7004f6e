"""Records, and what is told of values: equality, order, keys and texts."""

from recordcraft.errors import Frozen, NoField, NoMethod, NotInLine, NotKeyable, NotOrdered, Unset
from recordcraft.keyed import can_be_key, is_matching
from recordcraft.orders import are_records_equal, is_equal, order_of, order_of_records
from recordcraft.showing import text_of
from recordcraft.sorts import Fielded, check_depth


class Record(Fielded):
    """A record of a kind. Records are made by kinds."""

    __slots__ = ("_kind", "_values", "_is_made")

    def __init__(self, kind, values):
        self._kind = kind
        self._values = dict(values)
        self._is_made = False

    @property
    def kind(self):
        """The kind that made the record."""
        return self._kind

    def seal(self):
        """Ends the making of the record: from now on it is frozen if its kind is."""
        self._is_made = True

    def is_itself(self, other):
        """Returns whether the other record is this very object."""
        return self is other

    def has_field(self, name):
        """Returns whether a value of any kind is the name of a field."""
        return isinstance(name, str) and name in self._kind.field_names

    def put(self, name, value):
        """Gives a field a new value."""
        if not self.has_field(name):
            raise NoField(name)
        if self._kind.frozen and (self._is_made or name in self._values):
            raise Frozen(name)
        self._values[name] = value

    def state_of(self, name):
        """Returns a tuple with the value of a field, or an empty one if there is no field or it is not set."""
        return (self._values[name],) if name in self else ()

    def put_back(self, name, state):
        """Gives a field, which is set now, the state that it had before."""
        if state:
            self._values[name] = state[0]
        else:
            del self._values[name]

    def parts(self):
        """Returns the values of all fields that are set as a new list, in any order."""
        return list(self._values.values())

    def present_values(self):
        """Returns a new dict from the names of the fields that are set to their values, in any order."""
        return dict(self._values)

    def key_values(self):
        """Returns the values of the fields that count in keys; raises Unset for the first one that is not set."""
        names = self._kind.key_names
        if len(self._values) < len(self._kind.field_names):
            for name in names:
                if name not in self._values:
                    raise Unset(name)
        return [self._values[name] for name in names]

    def compared_values(self):
        """Returns the values of the fields with compare, all of which are known to be set."""
        return [self._values[name] for name in self._kind.compare_names]

    def check_compared(self, other):
        """Raises Unset for the first field with compare that is not set in one of two records of this kind."""
        many = len(self._kind.field_names)
        if len(self._values) == many and len(other._values) == many:
            return
        for name in self._kind.compare_names:
            if name not in self._values or name not in other._values:
                raise Unset(name)

    def entries(self):
        """Yields the names and values of all fields that are set."""
        for name in self._kind.field_names:
            if name in self._values:
                yield (name, self._values[name])

    def call(self, name, *values):
        """Calls the method with this name and returns its result."""
        return self._call_from(0, name, values)

    def call_above(self, kind, name, *values):
        """Calls the next method with this name behind a kind of the line and returns its result."""
        return self._call_from(self._place_behind(kind), name, values)

    def hook_above(self, kind, *values):
        """Calls the next hook behind a kind of the line, if there is one."""
        hook = self._kind.find_hook(self._place_behind(kind))
        if hook is not None:
            function = hook.function
            function(self, *values)

    def _place_behind(self, kind):
        if not self._kind.is_below(kind):
            raise NotInLine(kind)
        return self._kind.line.index(kind) + 1

    def _call_from(self, place, name, values):
        method = self._kind.find_method(place, name)
        if method is None:
            raise NoMethod(name)
        function = method.function
        return function(self, *values)

    def __contains__(self, name):
        return self.has_field(name) and name in self._values

    def __getitem__(self, name):
        if not self.has_field(name):
            raise NoField(name)
        if name not in self._values:
            raise Unset(name)
        return self._values[name]

    def __setitem__(self, name, value):
        self.put(name, value)

    def __iter__(self):
        raise TypeError("a record is not iterated over: take its entries()")

    def __eq__(self, other):
        if not isinstance(other, Record):
            return False
        check_depth(self)
        check_depth(other)
        return are_records_equal(self, other)

    def __lt__(self, other):
        if not isinstance(other, Record):
            return NotImplemented
        return _order_of_records(self, other) < 0

    def __le__(self, other):
        if not isinstance(other, Record):
            return NotImplemented
        return _order_of_records(self, other) <= 0


def are_equal(one, other):
    """Returns whether two values are equal."""
    check_depth(one)
    check_depth(other)
    return is_equal(one, other)


def compare(one, other):
    """Returns -1 if the first value comes before the other one, 0 if they are equal, and 1 if it comes behind."""
    check_depth(one)
    check_depth(other)
    return order_of(one, other)


def is_keyable(value):
    """Returns whether a value of any kind can be a key."""
    check_depth(value)
    return can_be_key(value)


def is_same_key(one, other):
    """Returns whether two keyable values are the same key."""
    check_depth(one)
    check_depth(other)
    if not can_be_key(one) or not can_be_key(other):
        raise NotKeyable()
    return is_matching(one, other)


def shown(value):
    """Returns the text by which a value is shown."""
    check_depth(value)
    return text_of(value)


def _order_of_records(one, other):
    check_depth(one)
    check_depth(other)
    # Unlike compare, the operators do not ask first whether the records are equal.
    if not one.kind.order:
        raise NotOrdered()
    return order_of_records(one, other)
