"""Names, members and their options: [20] and [21]."""

import itertools

from recordcraft.errors import InvalidMember, TooDeep, Unset
from recordcraft.kinds import Kind
from recordcraft.members import Field, Hook, InitOnly, Member, Method, Shared
from tests.helpers import CraftTestCase, EqualToAll, nested_tuple, nothing, odd_values, often, values_of_no_sort

BARRED = ("and", "as", "class", "def", "else", "for", "if", "in", "is", "not", "or", "pass", "self")
GOOD_NAMES = ("a", "Z", "_", "__x__", "a1", "_9", "A" * 40, "Self", "And", "none", "None", "return", "selfs", "x_y")
BAD_NAMES = ("", "1", "9a", "a b", " a", "a ", "a\n", "\na", "a-b", "a.b", "A" * 41, "a" * 20000, "a\"", "a:b", "a@",
             "a[", "a`", "a{", "\u00e9", "a\u00b2", "\u0661", "a\u0661", *BARRED)
MAKERS = (lambda name: Field(name), lambda name: Field.of(name, {}), lambda name: InitOnly(name),
          lambda name: InitOnly.of(name, {}), lambda name: Shared(name, 1), lambda name: Method(name, nothing))


class NameTest(CraftTestCase):
    def test_good_names(self):
        for make, name in itertools.product(MAKERS, GOOD_NAMES):
            self.assertIs(make(name).name, name)

    def test_every_sign_at_every_place(self):
        for sign in map(chr, range(0, 300)):
            is_letter = "a" <= sign <= "z" or "A" <= sign <= "Z" or sign == "_"
            is_digit = "0" <= sign <= "9"
            for name, is_good in ((sign + "x", is_letter), ("x" + sign, is_letter or is_digit)):
                if is_good and name not in BARRED:
                    self.assertEqual(Field(name).name, name)
                elif not is_good:
                    self.check_error(InvalidMember, {"rule": "name", "item": name}, Field, name)

    def test_bad_names(self):
        for make, name in itertools.product(MAKERS, BAD_NAMES):
            self.check_error(InvalidMember, {"rule": "name", "item": name}, make, name)

    def test_any_value(self):
        for value in odd_values():
            for make in MAKERS:
                self.check_error(InvalidMember, {"rule": "name", "item": value}, make, value)

    def test_name_comes_before_options(self):
        self.check_error(InvalidMember, {"rule": "name", "item": "1"}, Field, "1", other=1)
        self.check_error(InvalidMember, {"rule": "name", "item": "1"}, Field.of, "1", {"init": 1})
        self.check_error(InvalidMember, {"rule": "name", "item": "1"}, InitOnly, "1", default=[])


class FieldTest(CraftTestCase):
    def test_left_out_options(self):
        for field in (Field("x"), Field.of("x", {}), Field(name="x"), Field.of(name="x", options={})):
            self.assertIs(field.has_default, False)
            self.assertIs(field.default, None)
            self.assertIs(field.has_factory, False)
            self.assertIs(field.init, True)
            self.assertIs(field.compare, True)
            self.assertIs(field.show, True)
            self.assertIs(field.key, None)
            self.assertIs(field.only_named, None)
            self.assertIs(field.is_key(), True)

    def test_given_options(self):
        options = {"default": (1, "a"), "init": False, "compare": True, "show": False, "key": False,
                   "only_named": True}
        for field in (Field("x", **options), Field.of("x", options)):
            self.assertIs(field.has_default, True)
            self.assertIs(field.default, options["default"])
            self.assertIs(field.has_factory, False)
            self.assertIs(field.init, False)
            self.assertIs(field.compare, True)
            self.assertIs(field.show, False)
            self.assertIs(field.key, False)
            self.assertIs(field.only_named, True)
        self.assertEqual(list(options), ["default", "init", "compare", "show", "key", "only_named"])

    def test_default_none(self):
        self.assertIs(Field("x", default=None).has_default, True)
        self.assertIs(Field("x", default=None).default, None)

    def test_factories_are_not_judged(self):
        for value in [*odd_values(), nothing, "a", list]:
            field = Field("x", factory=value)
            self.assertIs(field.has_factory, True)
            self.assertIs(field.has_default, False)
            self.assertIs(field.default, None)

    def test_is_key(self):
        for key, compare in itertools.product((None, True, False), (True, False)):
            if key is True and not compare:
                self.check_error(InvalidMember, {"rule": "key", "item": "x"}, Field, "x", key=key, compare=compare)
            else:
                counts = compare if key is None else key
                self.assertIs(Field("x", key=key, compare=compare).is_key(), counts)

    def test_unknown_options(self):
        for option in ("other", "", "Init", "a b", "order", "options", "value", "function", "cls", "self"):
            self.check_error(InvalidMember, {"rule": "option", "item": option}, Field.of, "x", {option: True})
            self.check_error(InvalidMember, {"rule": "option", "item": option}, InitOnly.of, "x", {option: True})
        self.check_error(InvalidMember, {"rule": "option", "item": "other"}, Field, "x", other=1)

    def test_truth_values(self):
        for option in ("init", "compare", "show"):
            for value in [*odd_values(), "x", 1, 0, "True"]:
                if value is not True and value is not False:
                    self.check_error(InvalidMember, {"rule": "value", "item": option}, Field.of, "x", {option: value})

    def test_truth_values_or_none(self):
        for option in ("key", "only_named"):
            for value in [*odd_values(), "x", 1, 0, "None"]:
                if value is not True and value is not False and value is not None:
                    self.check_error(InvalidMember, {"rule": "value", "item": option}, Field.of, "x", {option: value})
            for value in (True, False, None):
                self.assertIs(getattr(Field.of("x", {option: value}), option), value)

    def test_keyable_defaults(self):
        loose = Kind("Loose", Field("x"), equal=False).make([1])
        frozen = Kind("Ice", Field("x"), frozen=True).make(1)
        for value in (None, True, 0, "a", (), (1, ("a",)), nested_tuple(50), loose, frozen, (loose, frozen)):
            for make in (Field, InitOnly):
                self.assertIs(make("x", default=value).default, value)

    def test_defaults_that_are_not_keyable(self):
        plain = Kind("Plain", Field("x")).make(1)
        for value in [[], {}, [1], ([],), (1, ({},)), plain, (plain,), *values_of_no_sort(), (1, object())]:
            for make in (Field, InitOnly):
                self.check_error(InvalidMember, {"rule": "value", "item": "default"}, make, "x", default=value)

    def test_errors_of_judging_a_default(self):
        hole = Kind("Hole", Field("x"), Field("y", init=False), frozen=True).make(1)
        loop = []
        loop.append(loop)
        for make in (Field, InitOnly):
            self.check_error(TooDeep, {}, make, "x", default=nested_tuple(51))
            self.check_error(TooDeep, {}, make, "x", default=often(40))
            self.check_error(TooDeep, {}, make, "x", default=loop)
            self.check_error(Unset, {"name": "y"}, make, "x", default=hole)
            self.check_error(Unset, {"name": "y"}, make, "x", default=([], hole))

    def test_options_are_looked_at_in_their_order(self):
        error = {"rule": "value", "item": "init"}
        self.check_error(InvalidMember, error, Field.of, "x", {"init": 1, "other": 1, "default": []})
        error = {"rule": "option", "item": "other"}
        self.check_error(InvalidMember, error, Field.of, "x", {"other": 1, "init": 1, "default": []})
        error = {"rule": "value", "item": "default"}
        self.check_error(InvalidMember, error, Field.of, "x", {"default": [], "other": 1, "init": 1})
        self.check_error(InvalidMember, error, Field, "x", show=True, default=[], other=1)
        self.check_error(TooDeep, {}, Field, "x", default=nested_tuple(51), other=1)
        self.check_error(InvalidMember, error, InitOnly, "x", only_named=None, default=[], init=1)

    def test_default_and_factory(self):
        error = {"rule": "both", "item": "x"}
        self.check_error(InvalidMember, error, Field, "x", default=None, factory=list)
        self.check_error(InvalidMember, error, Field, "x", factory=None, default=1)
        self.check_error(InvalidMember, error, Field, "x", factory=list, default=1, key=True, compare=False)
        self.check_error(InvalidMember, {"rule": "value", "item": "show"}, Field, "x", default=1, factory=1, show=1)
        self.check_error(InvalidMember, {"rule": "option", "item": "no"}, Field, "x", key=True, compare=False, no=1)

    def test_members_keep_no_part_of_the_dict(self):
        options = {"default": 1}
        field = Field.of("x", options)
        options["default"] = 2
        options["init"] = False
        self.assertEqual((field.default, field.init), (1, True))


class OtherMembersTest(CraftTestCase):
    def test_init_only(self):
        for member in (InitOnly("x"), InitOnly.of("x", {}), InitOnly(name="x"), InitOnly.of(name="x", options={})):
            self.assertEqual((member.name, member.has_default, member.default), ("x", False, None))
            self.assertIs(member.has_factory, False)
            self.assertIs(member.only_named, None)
        member = InitOnly("x", default=(1,), only_named=False)
        self.assertEqual((member.has_default, member.default, member.only_named), (True, (1,), False))

    def test_init_only_does_not_have_the_other_options(self):
        for option in ("factory", "init", "compare", "show", "key"):
            self.check_error(InvalidMember, {"rule": "option", "item": option}, InitOnly.of, "x", {option: None})
            self.check_error(InvalidMember, {"rule": "option", "item": option}, InitOnly, "x", **{option: True})

    def test_init_only_values(self):
        for value in [*odd_values(), "x", 0, 1]:
            if value is not True and value is not False and value is not None:
                error = {"rule": "value", "item": "only_named"}
                self.check_error(InvalidMember, error, InitOnly.of, "x", {"only_named": value})

    def test_shared_and_method_and_hook(self):
        value = [1]
        self.assertIs(Shared("x", value).value, value)
        self.assertIs(Shared(value=value, name="x").value, value)
        self.assertEqual(Method(function=nothing, name="x").name, "x")
        for odd in odd_values():
            Method("x", odd)
            Hook(odd)
        Hook(function=nothing)

    def test_classes(self):
        for kind in (Field, InitOnly, Shared, Method):
            self.assertEqual(kind.__bases__, (Member,))
            self.assertEqual(kind.__module__, "recordcraft.members")
        self.assertFalse(issubclass(Hook, Member))
        for kind, name in ((Field, "of"), (Field, "is_key"), (InitOnly, "of")):
            self.assertIn(name, vars(kind))

    def test_equal_to_all_is_no_option_value(self):
        error = {"rule": "value", "item": "init"}
        self.check_error(InvalidMember, error, Field, "x", init=EqualToAll())
