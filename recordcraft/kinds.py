"""Kinds of records."""

from recordcraft.declarations import check_above, check_defaults, check_frozen, check_members, check_mixture
from recordcraft.declarations import check_options, is_only_named, whole_members
from recordcraft.errors import GivenTwice, InvalidKind, MissingNames, NoShared, TooManyValues, UnknownName
from recordcraft.lines import Lined, line_above
from recordcraft.members import Field, Hook, InitOnly
from recordcraft.names import is_name
from recordcraft.records import Record, shown


class Kind(Lined):
    """A kind of records, declared by its members and by the kinds above it."""

    MAX_MEMBERS = 16
    MAX_LINE = 12

    def __init__(self, name, *members, above=(), **options):
        if not is_name(name):
            raise InvalidKind("name", name)
        self.name = name
        self._declare(members, above, options)

    @classmethod
    def of(cls, name, members, above=(), options=None):
        """Declares a kind with a tuple of members and a dict of options."""
        # An option of any name can stand in the dict, but not be passed by **.
        kind = cls(name)
        kind._declare(members, above, {} if options is None else options)
        return kind

    def _declare(self, members, above, options):
        check_members(members)
        check_options(options)
        check_above(above)
        self.above = above
        self._set_options(options)
        self._set_own(members)
        line = line_above(above)
        self.line = (self, *line)
        check_mixture(self.line)
        check_frozen(self.line)
        if self.order and not self.equal:
            raise InvalidKind("order")
        self._set_whole(whole_members(self.line))
        check_defaults(self._by_position)

    def _set_own(self, members):
        hooks = [member for member in members if isinstance(member, Hook)]
        self.own_hook = hooks[0] if hooks else None
        self.own_members = tuple([member for member in members if not isinstance(member, Hook)])
        self.own_methods = {member.name: member for member in self.own_members if member.SORT == "method"}

    def _set_options(self, options):
        self.equal = options.get("equal", True)
        self.order = options.get("order", False)
        self.frozen = options.get("frozen", False)
        self.only_named = options.get("only_named", False)
        self.show = options.get("show", True)

    def _set_whole(self, whole):
        data = [(member, is_only_named(member, kind)) for member, kind in whole if member.SORT == "data"]
        if len(data) > self.MAX_MEMBERS or len(self.line) > self.MAX_LINE:
            raise InvalidKind("size")
        self._data = data
        self._shared = {member.name: member.value for member, _ in whole if member.SORT == "shared"}
        self._other_members = [member for member, _ in whole if member.SORT != "data"]
        self.fields = tuple([member for member, _ in data if isinstance(member, Field)])
        self.field_names = tuple([field.name for field in self.fields])
        self.compare_names = tuple([field.name for field in self.fields if field.compare])
        self.show_names = tuple([field.name for field in self.fields if field.show])
        self.key_names = tuple([field.name for field in self.fields if field.is_key()])
        self._init_only = [member for member, _ in data if isinstance(member, InitOnly)]
        self._by_position = [member for member, named in data if member.is_parameter() and not named]
        self._by_name = [member for member, named in data if member.is_parameter() and named]
        self._parameters = self._by_position + self._by_name
        self._parameter_names = [member.name for member in self._parameters]

    def is_below(self, other):
        """Returns whether the other kind is in the line."""
        return isinstance(other, Kind) and other in self.line

    def shared(self, name):
        """Returns the shared value with this name."""
        if not isinstance(name, str) or name not in self._shared:
            raise NoShared(name)
        return self._shared[name]

    def find_method(self, place, name):
        """Returns the first method with this name in the line from this place on, or None."""
        if not isinstance(name, str):
            return None
        for kind in self.line[place:]:
            if name in kind.own_methods:
                return kind.own_methods[name]
        return None

    def find_hook(self, place):
        """Returns the first hook in the line from this place on, or None."""
        for kind in self.line[place:]:
            if kind.own_hook is not None:
                return kind.own_hook
        return None

    def signature(self):
        """Returns the parameters as a text."""
        words = [_word_of(member) for member in self._by_position]
        if self._by_name:
            words.append("*")
        words.extend([_word_of(member) for member in self._by_name])
        inside = ", ".join(words)
        return f"({inside})"

    def flat(self, name):
        """Returns the kind with this name, without kinds above, in which everything is written out."""
        members = [member.told(named) for member, named in self._data]
        members.extend(self._other_members)
        hook = self.find_hook(0)
        if hook is not None:
            members.append(hook)
        options = {"equal": self.equal, "order": self.order, "frozen": self.frozen}
        options["only_named"] = self.only_named
        options["show"] = self.show
        return Kind(name, *members, **options)

    def bind(self, values, named):
        """Returns a dict from the names of parameters to the given values."""
        if len(values) > len(self._by_position):
            raise TooManyValues(len(self._by_position))
        given = {member.name: value for member, value in zip(self._by_position, values)}
        for name in named:
            if name not in self._parameter_names:
                raise UnknownName(name)
            if name in given:
                raise GivenTwice(name)
            given[name] = named[name]
        self._check_missing(given)
        return {name: given[name] for name in self._parameter_names if name in given}

    def _check_missing(self, given):
        needed = [member for member in self._parameters if not member.has_default and not member.has_factory]
        missing = tuple([member.name for member in needed if member.name not in given])
        if missing:
            raise MissingNames(missing)

    def make(self, *values, **named):
        """Returns a new record."""
        return self.build(values, named)

    def build(self, values, named):
        """Returns a new record, made from a tuple of values and a dict of named values."""
        given = self.bind(values, named)
        record = Record(self, self._first_values(given))
        hook = self.find_hook(0)
        if hook is not None:
            extras = [given.get(member.name, member.default) for member in self._init_only]
            function = hook.function
            function(record, *extras)
        record.seal()
        return record

    def _first_values(self, given):
        values = {}
        for field in self.fields:
            if field.name in given:
                values[field.name] = given[field.name]
            elif field.has_default:
                values[field.name] = field.default
            elif field.has_factory:
                factory = field.factory
                values[field.name] = factory()
        return values


def _word_of(member):
    if member.has_default:
        return f"{member.name}={shown(member.default)}"
    if member.has_factory:
        return f"{member.name}=..."
    return member.name
