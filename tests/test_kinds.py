"""Declarations, whole kinds, parameters and binding: [30], [32], [33], [35] and the module kinds."""

import itertools

from recordcraft.errors import GivenTwice, InvalidKind, MissingNames, NoShared, TooDeep, TooManyValues, UnknownName
from recordcraft.kinds import Kind
from recordcraft.members import Field, Hook, InitOnly, Method, Shared
from recordcraft.records import shown
from tests.helpers import CraftTestCase, nested, nothing, odd_values
from tests.test_members import BAD_NAMES, GOOD_NAMES

OPTIONS = ("equal", "order", "frozen", "only_named", "show")


def fields(many, **options):
    return tuple(Field(f"f{at}", **options) for at in range(many))


def chain(many):
    """A kind whose line has this many kinds."""
    kind = Kind("K1")
    for at in range(2, many + 1):
        kind = Kind(f"K{at}", above=(kind,))
    return kind


def names_of(members):
    return [member.name for member in members]


class AttributesTest(CraftTestCase):
    def test_left_out_options(self):
        for kind in (Kind("K"), Kind.of("K", ()), Kind.of("K", (), (), None), Kind.of("K", (), options={})):
            self.assertEqual((kind.name, kind.above, kind.line), ("K", (), (kind,)))
            self.assertEqual((kind.fields, kind.field_names), ((), ()))
            self.assertEqual([getattr(kind, option) for option in OPTIONS], [True, False, False, False, True])

    def test_given_options(self):
        for truths in itertools.product((True, False), repeat=5):
            options = dict(zip(OPTIONS, truths))
            if options["order"] and not options["equal"]:
                continue
            for kind in (Kind("K", **options), Kind.of("K", (), (), options), Kind.of("K", (), options=options)):
                for option in OPTIONS:
                    self.assertIs(getattr(kind, option), options[option])

    def test_by_name(self):
        top = Kind(name="Top")
        members = (Field("x"), Shared("s", 1))
        kind = Kind.of(name="K", members=members, above=(top,), options={"show": False})
        self.assertEqual((kind.name, kind.above, kind.line, kind.show), ("K", (top,), (kind, top), False))

    def test_attributes(self):
        first, second = Field("x"), Field("y", init=False)
        above = (Kind("Top"),)
        kind = Kind("K", first, InitOnly("z"), Method("m", nothing), second, Hook(nothing), above=above)
        self.assertIs(kind.above, above)
        self.assertEqual(kind.fields, (first, second))
        self.assertIs(kind.fields[0], first)
        self.assertEqual(kind.field_names, ("x", "y"))
        self.assertIs(type(kind.fields), tuple)
        self.assertIs(type(kind.field_names), tuple)

    def test_class_values_and_methods(self):
        self.assertEqual((Kind.MAX_MEMBERS, Kind.MAX_LINE), (16, 12))
        for name in ("of", "is_below", "shared", "signature", "flat", "bind", "make", "build"):
            self.assertIn(name, vars(Kind))

    def test_options_are_not_taken_over(self):
        top = Kind("Top", Field("x"), order=True, only_named=True, show=False)
        kind = Kind("K", Field("y"), above=(top,))
        self.assertEqual([getattr(kind, option) for option in OPTIONS], [True, False, False, False, True])

    def test_is_below(self):
        top = Kind("Top")
        kind = Kind("K", above=(Kind("Mid", above=(top,)),))
        self.assertIs(kind.is_below(top), True)
        self.assertIs(kind.is_below(other=kind), True)
        self.assertIs(top.is_below(kind), False)
        self.assertIs(kind.is_below(Kind("Top")), False)

    def test_kinds_are_the_same_only_if_they_are_one_object(self):
        self.assertFalse(Kind("K") == Kind("K"))
        self.assertTrue(Kind("K") != Kind("K"))


class RulesTest(CraftTestCase):
    def refused(self, rule, item, *values, **named):
        return self.check_error(InvalidKind, {"rule": rule, "item": item}, Kind, *values, **named)

    def refused_of(self, rule, item, *values, **named):
        return self.check_error(InvalidKind, {"rule": rule, "item": item}, Kind.of, *values, **named)

    def test_name(self):
        for name in GOOD_NAMES:
            self.assertIs(Kind(name).name, name)
        for value in [*BAD_NAMES, *odd_values()]:
            self.refused("name", value, value)
            self.refused("name", value, value, 5, above=5, other=5)
            self.refused_of("name", value, value, ())

    def test_members_of_any_value(self):
        for value in [*odd_values(), "x"]:
            if isinstance(value, (Field, Hook)):
                continue
            self.refused("member", 0, "K", value)
            self.refused("member", 2, "K", Field("x"), Hook(nothing), value, value)
            self.refused_of("member", 1, "K", (Field("x"), value))

    def test_members_with_the_same_name(self):
        makers = (Field, InitOnly, lambda name: Shared(name, 1), lambda name: Method(name, nothing))
        for one, other in itertools.product(makers, repeat=2):
            self.refused("member", 1, "K", one("x"), other("x"))
            self.refused("member", 3, "K", one("x"), Field("y"), Hook(nothing), other("x"), 5)
        same = Field("x")
        self.refused("member", 1, "K", same, same)

    def test_one_hook(self):
        hook = Hook(nothing)
        self.refused("member", 1, "K", hook, hook)
        self.refused("member", 2, "K", Hook(nothing), Field("x"), Hook(nothing), Field("x"))
        self.refused("member", 2, "K", Hook(nothing), Field("x"), Field("x"), Hook(nothing))
        self.assertEqual(Kind("K", Field("x"), hook).field_names, ("x",))

    def test_list_of_members(self):
        self.refused_of("member", None, "K", [Field("x")])

    def test_other_options(self):
        for option in ("other", "", "Equal", "default", "members", "self", "a b"):
            self.refused_of("option", option, "K", (), (), {option: True})
        self.refused("option", "init", "K", init=True)

    def test_option_values(self):
        for option in OPTIONS:
            for value in [*odd_values(), "True", 0, 1]:
                if value is not True and value is not False:
                    self.refused_of("value", option, "K", (), (), {option: value})
                    self.refused("value", option, "K", **{option: value})

    def test_options_are_looked_at_in_their_order(self):
        self.refused_of("value", "order", "K", (), (), {"show": True, "order": 1, "other": 1})
        self.refused_of("option", "other", "K", (), (), {"show": True, "other": 1, "order": 1})
        self.refused("value", "show", "K", show=None, init=1)

    def test_above_of_any_value(self):
        top = Kind("Top")
        for value in [[top], top, *odd_values(), "K"]:
            if not isinstance(value, tuple):
                self.refused("above", None, "K", above=value)
                self.refused_of("above", None, "K", (), value)
        for value in [*odd_values(), "Top", Kind]:
            if not isinstance(value, Kind):
                self.refused("above", 0, "K", above=(value, top))
                self.refused("above", 1, "K", above=(top, value, value))

    def test_above_twice(self):
        top, other = Kind("Top"), Kind("Other")
        self.refused("above", 1, "K", above=(top, top))
        self.refused("above", 2, "K", above=(top, other, top, 5))
        self.assertEqual(len(Kind("K", above=(top, Kind("Top"))).line), 3)

    def test_line(self):
        top = Kind("Top")
        error = self.line_refusal(above=(top, Kind("Low", above=(top,))))
        self.assertEqual(set(names_of(error.item)), {"Top", "Low"})

    def line_refusal(self, **named):
        with self.assertRaises(InvalidKind) as caught:
            Kind("K", **named)
        self.assertEqual(caught.exception.rule, "line")
        return caught.exception

    def test_mixture(self):
        sorts = [(Field("x"), InitOnly("x")), (Shared("x", 1),), (Method("x", nothing),)]
        for (at, some), (spot, others) in itertools.product(enumerate(sorts), repeat=2):
            for one, other in itertools.product(some, others):
                above = (Kind("Top", one),)
                if at == spot:
                    Kind("K", other, above=above)
                else:
                    self.refused("mixture", "x", "K", other, above=above)
                    self.refused("mixture", "x", "K", above=(Kind("Other", other), above[0]))

    def test_first_mixture_when_the_line_is_gone_through_from_its_end(self):
        top = Kind("Top", Field("a"), Field("b"), Field("c"))
        mid = Kind("Mid", above=(top,))
        self.refused("mixture", "b", "K", Shared("b", 1), Shared("a", 1), above=(mid,))
        right = Kind("Right", Shared("c", 1), Shared("d", 1))
        self.refused("mixture", "c", "K", Shared("a", 1), above=(mid, right))
        self.refused("mixture", "c", "K", Shared("a", 1), Field("d"), above=(right, mid))

    def test_frozen(self):
        ice = Kind("Ice", Field("x"), frozen=True)
        water = Kind("Water", Field("x"))
        self.refused("frozen", ice, "K", above=(ice,))
        self.refused("frozen", water, "K", above=(water,), frozen=True)
        self.refused("frozen", water, "K", Field("y"), above=(ice, water), frozen=True)
        self.refused("frozen", ice, "K", above=(water, ice))
        self.assertEqual(Kind("K", above=(ice,), frozen=True).field_names, ("x",))

    def test_frozen_looks_only_at_kinds_that_declare_fields(self):
        ice = Kind("Ice", InitOnly("x"), Shared("s", 1), Method("m", nothing), Hook(nothing), frozen=True)
        self.assertIs(Kind("K", Field("y"), above=(ice,)).frozen, False)
        water = Kind("Water")
        self.assertIs(Kind("K", Field("y"), above=(water,), frozen=True).frozen, True)

    def test_first_kind_of_the_line_breaks_frozen(self):
        top = Kind("Top", Field("x"), frozen=True)
        left = Kind("Left", Field("y"), above=(top,), frozen=True)
        right = Kind("Right", Field("z"), frozen=True)
        self.refused("frozen", left, "K", above=(left, right))
        self.refused("frozen", right, "K", above=(right, left))
        thin = Kind("Thin", above=(top,), frozen=True)
        self.refused("frozen", top, "K", above=(thin,))

    def test_order(self):
        self.refused("order", None, "K", order=True, equal=False)
        self.assertIs(Kind("K", order=True, equal=True).order, True)

    def test_sixteen_members(self):
        self.assertEqual(len(Kind("K", *fields(16)).fields), 16)
        self.refused("size", None, "K", *fields(17))
        self.refused("size", None, "K", *fields(16), InitOnly("x"))
        top = Kind("Top", *fields(10), InitOnly("x"))
        self.refused("size", None, "K", *fields(9), *[Field(f"g{at}") for at in range(6)], above=(top,))
        kind = Kind("K", *fields(9), Field("x"), *[Field(f"g{at}") for at in range(5)], above=(top,))
        self.assertEqual(len(kind.fields), 16)
        others = [Shared(f"s{at}", 1) for at in range(20)] + [Method(f"m{at}", nothing) for at in range(20)]
        self.assertEqual(len(Kind("K", *fields(16), *others, Hook(nothing)).fields), 16)

    def test_twelve_kinds(self):
        self.assertEqual(len(chain(12).line), 12)
        self.refused("size", None, "K", above=(chain(12),))
        self.refused("size", None, "K", above=tuple(Kind("Top") for _ in range(12)))
        self.assertEqual(len(Kind("K", above=tuple(Kind("Top") for _ in range(11))).line), 12)

    def test_default(self):
        self.refused("default", "y", "K", Field("x", default=1), Field("y"))
        self.refused("default", "y", "K", Field("x", factory=list), Field("y"), Field("z"))
        self.refused("default", "y", "K", InitOnly("x", default=1), InitOnly("y"))
        self.refused("default", "y", "K", Field("x", default=None), InitOnly("y"), Field("z"))
        top = Kind("Top", Field("x"), Field("y"))
        self.refused("default", "y", "K", Field("x", default=1), above=(top,))

    def test_default_looks_only_at_parameters_by_position(self):
        Kind("K", Field("x", default=1), Field("y", only_named=True))
        Kind("K", Field("x", default=1, only_named=True), Field("y"))
        Kind("K", Field("x", default=1), Field("y"), only_named=True)
        Kind("K", Field("x", default=1), Field("y", init=False), Field("z", factory=list))
        Kind("K", Field("x", default=1, init=False), Field("y"))
        self.refused("default", "z", "K", Field("w", default=1, only_named=False), Field("y"),
                     Field("z", only_named=False), only_named=True)

    def test_two_broken_rules_at_once(self):
        """Each rule with the next ones broken as well: the first one is named."""
        top, water = Kind("Top"), Kind("Water", Field("w"))
        ring = (top, Kind("Low", above=(top,)))
        many = fields(17)
        mixed = Kind("Mixed", Field("x"))
        self.refused("member", 0, "K", 5, other=1, above=[top])
        self.refused("option", "other", "K", other=1, above=[top])
        self.refused("value", "order", "K", order=1, above=[top])
        self.refused("above", 2, "K", above=(*ring, 5), order=True, equal=False)
        self.assertEqual(self.line_refusal(above=(*ring, Kind("A", Field("x")), Kind("B", Shared("x", 1)))).rule, "line")
        self.refused("mixture", "x", "K", Shared("x", 1), above=(mixed, water), frozen=True)
        self.refused("frozen", water, "K", above=(water,), frozen=True, order=True, equal=False)
        self.refused("order", None, "K", *many, order=True, equal=False)
        self.refused("size", None, "K", Field("a", default=1), *many)

    def test_refused_calls_have_no_effect(self):
        top = Kind("Top", Field("x"))
        before = (top.fields, top.line, top.signature())
        self.refused("mixture", "x", "K", Shared("x", 1), above=(top,))
        self.assertEqual((top.fields, top.line, top.signature()), before)


class WholeKindTest(CraftTestCase):
    def test_order_of_members(self):
        top = Kind("Top", Field("a"), Field("b"))
        left = Kind("Left", Field("c"), Field("a"), above=(top,))
        right = Kind("Right", Field("d"), Field("b"), above=(top,))
        kind = Kind("K", Field("e"), Field("d"), above=(left, right))
        self.assertEqual(kind.field_names, ("a", "b", "d", "c", "e"))
        self.assertIs(kind.fields[0], left.fields[0])
        self.assertIs(kind.fields[1], right.fields[1])
        self.assertIs(kind.fields[4].name, "e")
        self.assertEqual(kind.signature(), "(a, b, d, c, e)")

    def test_fields_and_init_only_members_take_each_others_place(self):
        top = Kind("Top", Field("a"), InitOnly("b"), Field("c"))
        kind = Kind("K", Field("b"), InitOnly("a"), above=(top,))
        self.assertEqual(kind.field_names, ("b", "c"))
        self.assertEqual(kind.signature(), "(a, b, c)")
        self.assertEqual(shown(kind.make(1, 2, 3)), "K(b=2, c=3)")

    def test_only_named_of_the_kind_that_declares_the_member(self):
        top = Kind("Top", Field("a"), Field("b"), Field("c", only_named=False), only_named=True)
        self.assertEqual(top.signature(), "(c, *, a, b)")
        kind = Kind("K", Field("b"), Field("d", only_named=True), above=(top,))
        self.assertEqual(kind.signature(), "(b, c, *, a, d)")
        low = Kind("Low", InitOnly("c"), InitOnly("e", only_named=None), above=(kind,), only_named=True)
        self.assertEqual(low.signature(), "(b, *, a, c, d, e)")

    def test_shared_values(self):
        value = [1]
        top = Kind("Top", Shared("s", 1), Shared("t", value))
        left = Kind("Left", Shared("s", 2), above=(top,))
        right = Kind("Right", Shared("s", 3), Shared("u", None), above=(top,))
        kind = Kind("K", above=(left, right))
        self.assertEqual([kind.shared("s"), right.shared(name="s"), top.shared("s")], [2, 3, 1])
        self.assertIs(kind.shared("t"), value)
        self.assertIs(kind.shared("u"), None)

    def test_no_shared(self):
        kind = Kind("K", Shared("s", 1), Field("f"), Method("m", nothing), InitOnly("i"))
        for value in [*odd_values(), "", "S", "f", "m", "i", "K", "t"]:
            self.check_error(NoShared, {"name": value}, kind.shared, value)
        self.check_error(NoShared, {"name": "s"}, Kind("K").shared, "s")


class SignatureTest(CraftTestCase):
    def test_signatures(self):
        for members, text in (((), "()"), ((Field("x"),), "(x)"), ((Field("x", only_named=True),), "(*, x)"),
                              ((Field("x", init=False), InitOnly("y")), "(y)"),
                              ((Field("x", default="a\n"), Field("y", factory=list)), '(x="a\\n", y=...)'),
                              ((InitOnly("x", default=None), Field("y", default=(1,))), "(x=None, y=(1,))"),
                              ((Field("a", only_named=True, default=True), Field("b"), InitOnly("c", only_named=True)),
                               "(b, *, a=True, c)")):
            self.check_same(Kind("K", *members).signature(), text)

    def test_default_that_has_become_too_deep(self):
        loose = Kind("Loose", Field("x"), equal=False).make(1)
        kind = Kind("K", Field("f", default=(loose,)))
        self.assertEqual(kind.signature(), "(f=(Loose(x=1),))")
        loose["x"] = nested(48)
        self.assertIn("Loose(x=", kind.signature())
        loose["x"] = nested(49)
        self.check_error(TooDeep, {}, kind.signature)
        self.check_error(TooDeep, {}, kind.flat, "Flat")
        self.assertIs(kind.make()["f"][0], loose)

    def test_default_that_cannot_be_shown_is_not_in_the_way_elsewhere(self):
        self.assertEqual(Kind("K", Field("f", init=False, default=1)).signature(), "()")


class BindTest(CraftTestCase):
    def kind(self):
        return Kind("K", Field("a"), Field("b", only_named=True), InitOnly("c"), Field("d", init=False),
                    Field("e", default=1), InitOnly("f", only_named=True, default=2), Field("g", factory=list))

    def bound(self, expected, values, named):
        given = dict(named)
        result = self.kind().bind(values, named)
        self.assertEqual(list(result.items()), list(expected.items()))
        self.assertIs(type(result), dict)
        self.assertIsNot(result, named)
        self.assertEqual(list(named.items()), list(given.items()))

    def test_order_of_the_answer(self):
        self.assertEqual(self.kind().signature(), "(a, c, e=1, g=..., *, b, f=2)")
        self.bound({"a": 1, "c": 2, "b": 3}, (1, 2), {"b": 3})
        self.bound({"a": 1, "c": 2, "e": 3, "g": 4, "b": 5}, (1, 2, 3, 4), {"b": 5})
        self.bound({"a": 1, "c": 2, "g": 3, "b": 4, "f": 5}, (), {"f": 5, "b": 4, "g": 3, "c": 2, "a": 1})
        self.bound({"a": None, "c": [], "b": 5}, (None,), {"b": 5, "c": []})

    def test_values_are_kept(self):
        value = [1]
        self.assertIs(Kind("K", Field("a")).bind((value,), {})["a"], value)
        self.assertIs(Kind("K", Field("a")).bind(values=(), named={"a": value})["a"], value)

    def test_too_many_values(self):
        self.check_error(TooManyValues, {"limit": 4}, self.kind().bind, (1,) * 5, {})
        self.check_error(TooManyValues, {"limit": 4}, self.kind().bind, (1,) * 50, {"other": 1, "a": 1})
        self.check_error(TooManyValues, {"limit": 0}, Kind("K").bind, (1,), {})
        self.check_error(TooManyValues, {"limit": 0}, Kind("K", Field("x"), only_named=True).make, 1)

    def test_unknown_names(self):
        for name in ("other", "d", "", "self", "a b", "A", "K"):
            self.check_error(UnknownName, {"name": name}, self.kind().bind, (), {name: 1})
            self.check_error(UnknownName, {"name": name}, self.kind().build, (1, 2), {"b": 1, name: 1})

    def test_given_twice(self):
        self.check_error(GivenTwice, {"name": "c"}, self.kind().bind, (1, 2), {"b": 1, "c": 2})

    def test_names_are_looked_at_in_their_order(self):
        self.check_error(GivenTwice, {"name": "a"}, self.kind().bind, (1,), {"a": 1, "d": 2})
        self.check_error(UnknownName, {"name": "d"}, self.kind().bind, (1,), {"d": 2, "a": 1})

    def test_missing_names(self):
        self.check_error(MissingNames, {"names": ("a", "c", "b")}, self.kind().bind, (), {})
        self.check_error(MissingNames, {"names": ("c", "b")}, self.kind().make, 1)
        self.check_error(MissingNames, {"names": ("a",)}, self.kind().make, c=1, b=2, f=3)
        self.check_error(UnknownName, {"name": "x"}, self.kind().make, x=1)


class FlatTest(CraftTestCase):
    def test_flat_kind(self):
        hook = Hook(lambda record, c: record.put("d", c))
        top = Kind("Top", Field("a"), InitOnly("c"), Field("d", init=False), Shared("s", 1), hook, only_named=True)
        mid = Kind("Mid", Field("b", default=(1,), key=False), Method("m", lambda record: record["a"]), above=(top,))
        kind = Kind("K", Field("e", factory=list, compare=False, show=False), Shared("t", 2), above=(mid,),
                    only_named=True)
        flat = kind.flat("Flat")
        self.assertEqual((flat.name, flat.above, flat.line), ("Flat", (), (flat,)))
        self.assertEqual(flat.field_names, kind.field_names)
        self.assertEqual(flat.signature(), "(b=(1,), *, a, c, e=...)")
        self.assertEqual(flat.signature(), kind.signature())
        self.assertEqual([flat.shared("s"), flat.shared("t")], [1, 2])
        for one, other in zip(flat.fields, kind.fields):
            for name in ("name", "has_default", "default", "has_factory", "init", "compare", "show"):
                self.assertEqual(getattr(one, name), getattr(other, name))
            self.assertIs(one.is_key(), other.is_key())
        self.assertEqual([field.only_named for field in flat.fields], [True, True, False, True])
        record = flat.make(a=5, c=6)
        self.assertEqual(shown(record), "Flat(a=5, d=6, b=(1,))")
        self.assertEqual(record.call("m"), 5)

    def test_options(self):
        for truths in itertools.product((True, False), repeat=5):
            options = dict(zip(OPTIONS, truths))
            if options["equal"] or not options["order"]:
                flat = Kind("K", Field("x"), **options).flat(name="Flat")
                self.assertEqual([getattr(flat, option) for option in OPTIONS], list(truths))

    def test_first_of_the_line(self):
        top = Kind("Top", Shared("s", 1), Method("m", lambda record: 1), Hook(lambda record: record.put("x", 1)),
                   Field("x", default=0))
        kind = Kind("K", Shared("s", 2), Method("m", lambda record: 2), Hook(lambda record: record.put("x", 2)),
                    above=(top,))
        record = kind.flat("Flat").make()
        self.assertEqual((record.kind.shared("s"), record.call("m"), record["x"]), (2, 2, 2))

    def test_largest_kind(self):
        kind = Kind("K", *fields(16), above=(chain(11),))
        self.assertEqual(kind.flat("Flat").signature(), kind.signature())

    def test_kind_stays_as_it_is(self):
        kind = Kind("K", Field("x"), above=(Kind("Top", Field("y"), only_named=True),))
        kind.flat("Flat")
        self.assertEqual((kind.signature(), kind.fields[0].only_named), ("(x, *, y)", None))
