"""The facts: [51] to [53] and [62]; [50] stands in test_lines."""

import itertools
import random

from recordcraft.copies import changed, changed_by
from recordcraft.errors import InvalidKind, RecordcraftError
from recordcraft.kinds import Kind
from recordcraft.members import Field, Hook, InitOnly, Method, Shared
from recordcraft.records import are_equal, is_same_key, shown
from tests.helpers import CraftTestCase

NAMES = ("a", "b", "c", "d", "e")
SOME_VALUES = (0, 1, True, "x", None, (1,), (1, "x"), (0,), [0], [1])


def some_member(chance, name):
    options = {}
    if chance.random() < 0.3:
        options["default"] = chance.choice((0, "x", None, (1,)))
    if chance.random() < 0.3:
        options["only_named"] = chance.choice((True, False, None))
    if chance.random() < 0.2:
        return InitOnly.of(name, options)
    if "default" not in options and chance.random() < 0.2:
        options["factory"] = list
    for option in ("init", "compare", "show"):
        if chance.random() < 0.2:
            options[option] = False
    if options.get("compare", True) and chance.random() < 0.2:
        options["key"] = chance.choice((True, False, None))
    return Field.of(name, options)


def some_hook(chance):
    name = chance.choice(NAMES)

    def hook(record, *extras):
        try:
            record[name] = extras
        except RecordcraftError:
            pass
    return Hook(hook)


def some_kind(chance, above, frozen):
    members = [some_member(chance, name) for name in chance.sample(NAMES, chance.randint(0, 3))]
    if chance.random() < 0.5:
        members.append(some_hook(chance))
    if chance.random() < 0.5:
        number = chance.randint(0, 99)
        members.append(Method("m", lambda record, *values: (number, len(list(record.entries())), *values)))
    if chance.random() < 0.5:
        members.append(Shared("s", chance.randint(0, 99)))
    options = {"only_named": chance.random() < 0.2, "order": chance.random() < 0.5, "frozen": frozen,
               "show": chance.random() < 0.9}
    if not options["order"]:
        options["equal"] = chance.random() < 0.7
    return Kind.of("K", tuple(members), above, options)


def some_kinds(seed, many):
    """Kinds with kinds above them; declarations that are refused are left out."""
    chance = random.Random(seed)
    for _ in range(many):
        frozen = chance.random() < 0.5
        made = []
        for _ in range(5):
            try:
                above = tuple(chance.sample(made, min(len(made), chance.randint(0, 2))))
                made.append(some_kind(chance, above, frozen))
            except InvalidKind:
                continue
        yield from made[-2:]


def some_calls(chance, many):
    for _ in range(many):
        values = tuple(chance.choice(SOME_VALUES) for _ in range(chance.randint(0, 3)))
        named = {name: chance.choice(SOME_VALUES) for name in chance.sample(NAMES, chance.randint(0, 3))}
        yield values, named


def outcome(function, *values):
    """What a call returns or raises, as something that can be compared."""
    try:
        result = function(*values)
    except (RecordcraftError, TypeError) as error:
        return error.__class__.__name__, sorted(vars(error).items())
    return "returned", result


class FlatKindFactTest(CraftTestCase):
    def test_flat_kind_behaves_in_the_same_way(self):
        chance = random.Random(51)
        records = changes = refused = 0
        for kind in some_kinds(50, 400):
            flat = kind.flat("K")
            self.assertEqual(flat.signature(), kind.signature())
            self.assertEqual(outcome(flat.shared, "s"), outcome(kind.shared, "s"))
            made = []
            for values, named in some_calls(chance, 12):
                one, other = outcome(kind.build, values, named), outcome(flat.build, values, named)
                self.assertEqual(one[0], other[0])
                if one[0] != "returned":
                    refused += 1
                    self.assertEqual(one, other)
                    continue
                made.append((one[1], other[1]))
                self.assertEqual(shown(one[1]), shown(other[1]))
            for one, other in made:
                records += 1
                self.assertEqual(list(one.entries()), list(other.entries()))
                self.assertEqual(outcome(one.call, "m", 1), outcome(other.call, "m", 1))
                name = chance.choice(NAMES)
                self.assertEqual(outcome(one.put, name, 5), outcome(other.put, name, 5))
                self.assertEqual(shown(one), shown(other))
                change = {chance.choice(NAMES): 7}
                told = [outcome(lambda: shown(changed_by(record, change))) for record in (one, other)]
                changes += told[0][0] == "returned"
                self.assertEqual(told[0], told[1])
            for (one, other), (two, another) in itertools.product(made, repeat=2):
                for compared in ("__eq__", "__lt__", "__le__"):
                    self.assertEqual(outcome(getattr(one, compared), two), outcome(getattr(other, compared), another))
                self.assertEqual(outcome(is_same_key, one, two), outcome(is_same_key, other, another))
        self.assertGreater(records, 500)
        self.assertGreater(changes, 100)
        self.assertGreater(refused, 500)


class OrderFactTest(CraftTestCase):
    def records(self):
        point = Kind("Point", Field("x"), Field("y"), Field("z", compare=False), order=True, frozen=True)
        other = Kind("Other", Field("x"), frozen=True)
        values = (0, 1, 5, -1)
        pairs = [(one, two) for one in values for two in values] + [((1, "a"), 1), ((1,), 0)]
        return [point.make(one, two, z) for one, two in pairs[:16] for z in (0, 1)] + [other.make(1), other.make(1)]

    def test_equality_is_an_equivalence(self):
        records = self.records()
        for one, other in itertools.product(records, repeat=2):
            self.assertIs(one == one, True)
            self.assertIs(one == other, other == one)
        for one, other, third in itertools.product(records[::2], repeat=3):
            if one == other and other == third:
                self.assertTrue(one == third)

    def test_exactly_one_of_less_equal_and_greater(self):
        records = self.records()[:-2]
        for one, other in itertools.product(records, repeat=2):
            self.assertEqual((one < other) + (one == other) + (one > other), 1)
            self.assertIs(one <= other, one < other or one == other)
        for one, other, third in itertools.product(records[::2], repeat=3):
            if one < other and other < third:
                self.assertTrue(one < third)

    def test_equal_keyable_records_are_the_same_key(self):
        for one, other in itertools.product(self.records(), repeat=2):
            if are_equal(one, other):
                self.assertTrue(is_same_key(one, other))


class GoOnFactTest(CraftTestCase):
    def kinds(self, calls):
        """The kinds of a diamond, all with methods and hooks that go on."""
        kinds = {}

        def declare(name, *above, silent=False):
            def method(record, value):
                calls.append((name, value))
                if kinds[name] is not record.kind.line[-1]:
                    record.call_above(kinds[name], "m", value)

            def hook(record, extra):
                calls.append((name, extra))
                record.hook_above(kinds[name], extra)
            members = () if silent else (Method("m", method), Hook(hook))
            kinds[name] = Kind(name, InitOnly("extra"), *members, above=tuple(kinds[one] for one in above))
        declare("Top")
        declare("Left", "Top")
        declare("Right", "Top")
        declare("Mid", "Left", silent=True)
        declare("K", "Mid", "Right")
        return kinds

    def test_each_is_called_once_in_the_order_of_the_line(self):
        calls = []
        kinds = self.kinds(calls)
        expected = {"Top": ["Top"], "Left": ["Left", "Top"], "Right": ["Right", "Top"], "Mid": ["Left", "Top"],
                    "K": ["K", "Left", "Right", "Top"]}
        for name, order in expected.items():
            calls.clear()
            record = kinds[name].make(5)
            self.assertEqual(calls, [(one, 5) for one in order])
            calls.clear()
            record.call("m", 7)
            self.assertEqual(calls, [(one, 7) for one in order])


class ChangeFactTest(CraftTestCase):
    def test_changing_without_changes(self):
        kind = Kind("K", Field("x"), Field("y", default=1), Field("z", factory=list, only_named=True))
        for record in (kind.make(1), kind.make([1], "a", z=(1,)), kind.make(x=None)):
            self.assertIsNot(changed(record), record)
            self.assertTrue(changed(record) == record)

    def test_two_changes(self):
        kind = Kind("K", Field("x"), Field("y", default=1), Field("z", factory=list), order=True, frozen=True)
        for one, other in itertools.permutations(("x", "y", "z"), 2):
            record = kind.make(0)
            after = changed_by(changed_by(record, {one: 5}), {other: [6]})
            self.assertTrue(after == changed_by(record, {one: 5, other: [6]}))
