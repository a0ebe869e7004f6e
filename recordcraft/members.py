"""The members that kinds are declared with."""

from recordcraft.errors import InvalidMember
from recordcraft.names import is_name
from recordcraft.records import is_keyable

FIELD_OPTIONS = ("default", "factory", "init", "compare", "show", "key", "only_named")
INIT_ONLY_OPTIONS = ("default", "only_named")


class Member:
    """The base class of all members with a name. It is never created itself."""

    def __init__(self, name):
        if not is_name(name):
            raise InvalidMember("name", name)
        self.name = name


class Field(Member):
    """A field of the records of a kind."""

    SORT = "data"

    def __init__(self, name, **options):
        super().__init__(name)
        self._set_options(options)

    @classmethod
    def of(cls, name, options):
        """Creates a field with a dict of options."""
        # An option of any name can stand in the dict, but not be passed by **.
        field = cls(name)
        field._set_options(options)
        return field

    def _set_options(self, options):
        for option in options:
            _check_option(FIELD_OPTIONS, option, options[option])
        self.has_default = "default" in options
        self.default = options.get("default")
        self.has_factory = "factory" in options
        self.factory = options.get("factory")
        self.init = options.get("init", True)
        self.compare = options.get("compare", True)
        self.show = options.get("show", True)
        self.key = options.get("key")
        self.only_named = options.get("only_named")
        if self.has_default and self.has_factory:
            raise InvalidMember("both", self.name)
        if self.key is True and not self.compare:
            raise InvalidMember("key", self.name)

    def is_key(self):
        """Returns whether the field counts in keys."""
        if self.key is None:
            return self.compare
        return self.key

    def is_parameter(self):
        """Returns whether records are made with a value for this member."""
        return self.init

    def told(self, only_named):
        """Returns this field with the option only_named told outright."""
        options = {"init": self.init, "compare": self.compare, "show": self.show}
        options["key"] = self.key
        options["only_named"] = only_named
        if self.has_default:
            options["default"] = self.default
        if self.has_factory:
            options["factory"] = self.factory
        return Field(self.name, **options)


class InitOnly(Member):
    """A value that is given to hooks and is not kept in records."""

    SORT = "data"

    def __init__(self, name, **options):
        super().__init__(name)
        self._set_options(options)

    @classmethod
    def of(cls, name, options):
        """Creates an init-only member with a dict of options."""
        member = cls(name)
        member._set_options(options)
        return member

    def _set_options(self, options):
        for option in options:
            _check_option(INIT_ONLY_OPTIONS, option, options[option])
        self.has_default = "default" in options
        self.default = options.get("default")
        self.has_factory = False
        self.only_named = options.get("only_named")

    def is_parameter(self):
        """Returns whether records are made with a value for this member."""
        return True

    def told(self, only_named):
        """Returns this member with the option only_named told outright."""
        options = {"only_named": only_named}
        if self.has_default:
            options["default"] = self.default
        return InitOnly(self.name, **options)


class Shared(Member):
    """A value that belongs to a kind, not to its records."""

    SORT = "shared"

    def __init__(self, name, value):
        super().__init__(name)
        self.value = value


class Method(Member):
    """A function that is called with a record."""

    SORT = "method"

    def __init__(self, name, function):
        super().__init__(name)
        self.function = function


class Hook:
    """A function that is called with each new record. It has no name."""

    def __init__(self, function):
        self.function = function


def _check_option(known, option, value):
    if option not in known:
        raise InvalidMember("option", option)
    if not _is_allowed(option, value):
        raise InvalidMember("value", option)


def _is_allowed(option, value):
    if option == "factory":
        return True
    if option == "default":
        return is_keyable(value)
    if value is None:
        return option == "key" or option == "only_named"
    return isinstance(value, bool)
