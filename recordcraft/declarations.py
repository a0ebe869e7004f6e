"""The rules for declarations of kinds, and what a whole kind consists of."""

from recordcraft.errors import InvalidKind
from recordcraft.lines import Lined
from recordcraft.members import Field, Hook, Member

KIND_OPTIONS = ("equal", "order", "frozen", "only_named", "show")


def check_members(members):
    """Every value is a member or a hook, no two have one name, and there is at most one hook."""
    if not isinstance(members, tuple):
        raise InvalidKind("member")
    names = []
    for place, member in enumerate(members):
        name = _name_of(member, place)
        if name in names:
            raise InvalidKind("member", place)
        names.append(name)


def _name_of(member, place):
    """The name of a member, or None for a hook."""
    if isinstance(member, Hook):
        return None
    if not isinstance(member, Member):
        raise InvalidKind("member", place)
    return member.name


def check_options(options):
    """There are no other options, and each one is a truth value."""
    for option in options:
        if option not in KIND_OPTIONS:
            raise InvalidKind("option", option)
        if not isinstance(options[option], bool):
            raise InvalidKind("value", option)


def check_above(above):
    """The value is a tuple of kinds, and none of them occurs twice."""
    if not isinstance(above, tuple):
        raise InvalidKind("above")
    seen = []
    for place, kind in enumerate(above):
        if not isinstance(kind, Lined) or kind in seen:
            raise InvalidKind("above", place)
        seen.append(kind)


def check_mixture(line):
    """Members of a line with the same name have the same sort."""
    sorts = {}
    for kind in line[::-1]:
        for member in kind.own_members:
            if sorts.setdefault(member.name, member.SORT) != member.SORT:
                raise InvalidKind("mixture", member.name)


def check_frozen(line):
    """The kinds of a line that declare fields are frozen exactly if the first one is."""
    for kind in line[1:]:
        if kind.frozen != line[0].frozen and declares_fields(kind):
            raise InvalidKind("frozen", kind)


def declares_fields(kind):
    """Returns whether the kind itself declares a field."""
    return any([isinstance(member, Field) for member in kind.own_members])


def check_defaults(members):
    """No member without default and factory stands behind one with a default or factory."""
    is_behind = False
    for member in members:
        if member.has_default or member.has_factory:
            is_behind = True
        elif is_behind:
            raise InvalidKind("default", member.name)


def whole_members(line):
    """Returns the members of a whole kind, each as a pair with the kind of the line that declares it."""
    whole = {}
    for kind in line[::-1]:
        for member in kind.own_members:
            # A known name keeps its place among the keys of a dict.
            whole[member.name] = (member, kind)
    return list(whole.values())


def is_only_named(member, kind):
    """Returns whether a field or init-only member that the kind declares is only named."""
    if member.only_named is None:
        return kind.only_named
    return member.only_named
