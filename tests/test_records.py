"""Records: [40] to [45] and the class Record."""

import itertools

from recordcraft.errors import Frozen, MissingNames, NoField, NoMethod, NotInLine, NotOrdered, TooDeep, Unset
from recordcraft.kinds import Kind
from recordcraft.members import Field, Hook, InitOnly, Method, Shared
from recordcraft.records import Record, are_equal, compare, is_keyable, shown
from tests.helpers import CraftTestCase, EqualToAll, Stubborn, nested, nothing, odd_values, too_deep_values

POINT = Kind("Point", Field("x"), Field("y", default=0), order=True)
LOOSE = Kind("Loose", Field("x"), equal=False)
HOLED = Kind("Holed", Field("x"), Field("y", init=False), Field("z", init=False), order=True)


class OperatorsTest(CraftTestCase):
    def test_methods_stand_in_the_class(self):
        for name in ("kind", "__eq__", "__lt__", "__le__", "__contains__", "__getitem__", "__setitem__", "put",
                     "entries", "call", "call_above", "hook_above"):
            self.assertIn(name, vars(Record))
        self.assertIsInstance(POINT.make(1), Record)

    def test_equal(self):
        self.assertIs(POINT.make(1) == POINT.make(1, 0), True)
        self.assertIs(POINT.make(1) != POINT.make(1, 0), False)
        self.assertIs(POINT.make(1) == POINT.make(1, 1), False)
        self.assertIs(POINT.make(1) != POINT.make(1, 1), True)
        self.assertIs(POINT.make(1) == POINT.make(True), False)

    def test_equal_to_other_values(self):
        record = POINT.make(1)
        deep = POINT.make(nested(51))
        hole = HOLED.make(1)
        for value in [*odd_values(), "x", EqualToAll(), Stubborn()]:
            if not isinstance(value, Record):
                for one in (record, deep, hole):
                    self.assertIs(one == value, False)
                    self.assertIs(one != value, True)

    def test_kinds_that_are_declared_alike(self):
        twin = Kind("Point", Field("x"), Field("y", default=0), order=True)
        self.assertIs(POINT.make(1) == twin.make(1), False)
        self.check_error(NotOrdered, {}, lambda: POINT.make(1) < twin.make(2))
        low = Kind("Point", above=(POINT,), order=True)
        self.assertIs(POINT.make(1) == low.make(1), False)
        self.check_error(NotOrdered, {}, lambda: POINT.make(1) <= low.make(2))

    def test_kind_without_equal(self):
        record = LOOSE.make(1)
        self.assertIs(record == record, True)
        self.assertIs(record == LOOSE.make(1), False)
        self.assertIs(record != record, False)
        hole = Kind("Hole", Field("x", init=False), equal=False).make()
        self.assertIs(hole == hole, True)
        self.assertIs(are_equal([hole], [hole]), True)

    def test_fields_without_compare(self):
        kind = Kind("K", Field("a"), Field("b", compare=False), order=True)
        self.assertIs(kind.make(1, 2) == kind.make(1, []), True)
        self.assertIs(kind.make(1, 2) < kind.make(1, 3), False)
        self.assertIs(kind.make(1, 2) <= kind.make(1, "a"), True)
        nothing_to_compare = Kind("N", Field("b", compare=False), order=True)
        self.assertIs(nothing_to_compare.make(1) == nothing_to_compare.make(2), True)
        self.assertIs(nothing_to_compare.make(1) <= nothing_to_compare.make(2), True)

    def test_unset_fields(self):
        one, other = HOLED.make(1), HOLED.make(2)
        self.check_error(Unset, {"name": "y"}, lambda: one == other)
        self.check_error(Unset, {"name": "y"}, lambda: one == one)
        self.check_error(Unset, {"name": "y"}, lambda: one != other)
        self.check_error(Unset, {"name": "y"}, lambda: one < other)
        self.check_error(Unset, {"name": "y"}, lambda: one >= other)
        self.check_error(Unset, {"name": "y"}, compare, one, other)
        one["y"] = 1
        self.check_error(Unset, {"name": "y"}, lambda: one == other)
        self.check_error(Unset, {"name": "y"}, lambda: other == one)
        other["y"] = 1
        other["z"] = 1
        self.check_error(Unset, {"name": "z"}, lambda: one == other)
        one["z"] = 1
        self.assertIs(one == other, False)
        self.assertIs(one < other, True)
        free = Kind("Free", Field("x"), Field("y", compare=False, init=False))
        self.assertIs(free.make(1) == free.make(1), True)

    def test_order(self):
        row = [POINT.make(0), POINT.make(0, 1), POINT.make(1, 0)]
        for (at, one), (spot, other) in itertools.product(enumerate(row), repeat=2):
            self.assertIs(one < other, at < spot)
            self.assertIs(one <= other, at <= spot)
            self.assertIs(one > other, at > spot)
            self.assertIs(one >= other, at >= spot)

    def test_order_of_a_kind_without_order(self):
        plain = Kind("Plain", Field("x"), Field("y", init=False))
        record, same = plain.make(1), plain.make(1)
        for one, other in ((record, record), (record, same), (LOOSE.make(1), LOOSE.make(1)), (record, POINT.make(1)),
                           (POINT.make(1), record)):
            self.check_error(NotOrdered, {}, lambda: one < other)
            self.check_error(NotOrdered, {}, lambda: one <= other)
            self.check_error(NotOrdered, {}, lambda: one > other)
            self.check_error(NotOrdered, {}, lambda: one >= other)

    def test_compare_gives_zero_for_equal_records_of_any_kind(self):
        plain = Kind("Plain", Field("x"))
        self.assertEqual(compare(plain.make(1), plain.make(1)), 0)
        self.check_error(NotOrdered, {}, compare, plain.make(1), plain.make(2))
        loose = LOOSE.make(1)
        self.assertEqual(compare(loose, loose), 0)
        self.check_error(NotOrdered, {}, compare, loose, LOOSE.make(1))

    def test_values_that_cannot_be_compared(self):
        self.check_error(NotOrdered, {}, lambda: POINT.make(1) < POINT.make("a"))
        self.check_error(NotOrdered, {}, lambda: POINT.make(None) <= POINT.make(0))
        self.assertIs(POINT.make([1], 1) < POINT.make([1], 2), True)
        self.check_error(NotOrdered, {}, lambda: POINT.make([1]) < POINT.make([2]))

    def test_too_deep(self):
        plain = Kind("Plain", Field("x", compare=False))
        for value in too_deep_values():
            for kind in (POINT, plain, LOOSE):
                deep, other = kind.make(value), plain.make(1)
                for call in (lambda: deep == other, lambda: other == deep, lambda: deep < other, lambda: other <= deep,
                             lambda: deep == deep, lambda: deep >= deep, lambda: deep != other):
                    self.check_error(TooDeep, {}, call)

    def test_other_values_in_order(self):
        record = POINT.make(1)
        for value in [1, None, "x", (1, 0), [record], {}, Kind("K"), object()]:
            for call in (lambda: record < value, lambda: record <= value, lambda: record > value,
                         lambda: record >= value, lambda: value < record, lambda: value >= record):
                with self.assertRaises(TypeError):
                    call()

    def test_other_operators(self):
        record = POINT.make(1)
        for call in (lambda: record + record, lambda: -record, lambda: record * 2, lambda: record & record,
                     lambda: 1 - record, lambda: len(record), lambda: iter(record), lambda: list(record),
                     lambda: hash(record), lambda: record()):
            with self.assertRaises(TypeError):
                call()


class FieldsTest(CraftTestCase):
    def test_kind(self):
        record = POINT.make(1)
        self.assertIs(record.kind, POINT)
        with self.assertRaises(AttributeError):
            record.kind = POINT

    def test_read(self):
        value = [1]
        record = POINT.make(value)
        self.assertIs(record["x"], value)
        self.assertEqual(record["y"], 0)

    def test_contains(self):
        record = HOLED.make(None)
        self.assertIs("x" in record, True)
        self.assertIs("y" in record, False)
        record["y"] = None
        self.assertIs("y" in record, True)
        for value in [*odd_values(), "a", "", "X", "kind", EqualToAll(), Stubborn()]:
            self.assertIs(value in record, False)

    def test_no_field(self):
        kind = Kind("K", Field("x"), InitOnly("i"), Shared("s", 1), Method("m", nothing))
        record = kind.make(1, 2)
        for value in [*odd_values(), "", "X", "i", "s", "m", "K", "kind", EqualToAll(), Stubborn()]:
            self.check_error(NoField, {"name": value}, lambda: record[value])
            self.check_error(NoField, {"name": value}, record.put, value, 1)
            self.check_error(NoField, {"name": value}, record.__setitem__, value, 1)
        ice = Kind("Ice", Field("x"), frozen=True).make(1)
        self.check_error(NoField, {"name": "y"}, ice.put, "y", 1)

    def test_unset(self):
        record = HOLED.make(1)
        self.check_error(Unset, {"name": "y"}, lambda: record["y"])
        self.check_error(Unset, {"name": "z"}, lambda: record["z"])

    def test_put(self):
        record = HOLED.make(1)
        value = nested(60)
        self.assertIsNone(record.put("y", value))
        self.assertIs(record["y"], value)
        self.assertIsNone(record.put(value=5, name="x"))
        record["z"] = record
        self.assertEqual(record["x"], 5)
        self.assertIs(record["z"], record)

    def test_frozen(self):
        record = Kind("Ice", Field("x"), Field("y", init=False), frozen=True).make(1)
        for name in ("x", "y"):
            self.check_error(Frozen, {"name": name}, record.put, name, 1)
            self.check_error(Frozen, {"name": name}, record.__setitem__, name, 1)
        self.assertEqual(list(record.entries()), [("x", 1)])

    def test_entries(self):
        record = HOLED.make(1)
        self.assertEqual(list(record.entries()), [("x", 1)])
        record["z"] = 3
        self.assertEqual(list(record.entries()), [("x", 1), ("z", 3)])
        record["y"] = 2
        self.assertEqual(list(record.entries()), [("x", 1), ("y", 2), ("z", 3)])
        self.assertEqual(dict(record.entries()), {"x": 1, "y": 2, "z": 3})
        self.assertIs(type(next(iter(record.entries()))), tuple)

    def test_put_while_going_through_entries(self):
        record = HOLED.make(1)
        for name, value in record.entries():
            record["z"] = record["y"] = value
        self.assertEqual(list(record.entries()), [("x", 1), ("y", 1), ("z", 1)])

    def test_no_other_attributes_and_no_deleting(self):
        record = POINT.make(1)
        with self.assertRaises(AttributeError):
            record.other = 1
        with self.assertRaises(AttributeError):
            record.x
        with self.assertRaises((AttributeError, TypeError)):
            del record["x"]
        self.assertEqual(record["x"], 1)


class MakeTest(CraftTestCase):
    def test_by_position_and_by_name(self):
        for record in (POINT.make(1, 2), POINT.make(1, y=2), POINT.make(y=2, x=1), POINT.build((1, 2), {}),
                       POINT.build((), {"y": 2, "x": 1}), POINT.build(values=(1,), named={"y": 2})):
            self.assertEqual(shown(record), "Point(x=1, y=2)")

    def test_parameters_called_like_parts_of_the_interface(self):
        kind = Kind("K", Field("values"), Field("named"), Field("name"), Field("cls"))
        self.assertEqual(shown(kind.make(values=1, named=2, name=3, cls=4)), "K(values=1, named=2, name=3, cls=4)")

    def test_values_are_kept_as_they_are(self):
        value, default = [1], (Kind("L", equal=False).make(),)
        kind = Kind("K", Field("x"), Field("y", default=default))
        record = kind.make(value)
        self.assertIs(record["x"], value)
        self.assertIs(record["y"], default)
        self.assertIs(kind.make(1)["y"], default)

    def test_factories(self):
        calls = []

        def new():
            calls.append(len(calls))
            return [len(calls)]
        kind = Kind("K", Field("x", factory=new), Field("y", factory=new, init=False), Field("z", factory=new))
        first, second = kind.make(), kind.make()
        self.assertEqual(shown(first), "K(x=[1], y=[2], z=[3])")
        self.assertEqual(shown(second), "K(x=[4], y=[5], z=[6])")
        self.assertEqual(shown(kind.make(0, z=0)), "K(x=0, y=[7], z=0)")
        self.assertEqual(calls, list(range(7)))

    def test_binding_comes_before_factories(self):
        calls = []
        kind = Kind("K", Field("x", factory=lambda: calls.append(1)), Field("y", only_named=True),
                    Hook(lambda record: calls.append(2)))
        self.check_error(MissingNames, {"names": ("y",)}, kind.make)
        self.assertEqual(calls, [])

    def test_order_of_making(self):
        calls = []
        kind = Kind("K", Field("a", factory=lambda: calls.append("a")), Field("b", factory=lambda: calls.append("b")),
                    Hook(lambda record: calls.append([name for name, _ in record.entries()])))
        kind.make()
        self.assertEqual(calls, ["a", "b", ["a", "b"]])

    def test_fields_without_anything_stay_unset(self):
        kind = Kind("K", Field("a", init=False), Field("b", init=False, default=1),
                    Field("c", init=False, factory=list))
        self.assertEqual(shown(kind.make()), "K(a=unset, b=1, c=[])")

    def test_default_none(self):
        self.assertEqual(shown(Kind("K", Field("a", default=None)).make()), "K(a=None)")

    def test_exceptions_of_factories_pass_through(self):
        wrong, calls = KeyError("x"), []

        def fail():
            raise wrong
        kind = Kind("K", Field("a", factory=lambda: calls.append("a")), Field("b", factory=fail),
                    Field("c", factory=lambda: calls.append("c")), Hook(lambda record: calls.append("hook")))
        with self.assertRaises(KeyError) as caught:
            kind.make()
        self.assertIs(caught.exception, wrong)
        self.assertEqual(calls, ["a"])
        self.assertEqual(shown(kind.make(1, 2, 3)), "K(a=1, b=2, c=3)")

    def test_exceptions_of_hooks_pass_through(self):
        wrong = Unset("other")

        def fail(record):
            raise wrong
        with self.assertRaises(Unset) as caught:
            Kind("K", Field("a"), Hook(fail)).make(1)
        self.assertIs(caught.exception, wrong)

    def test_what_hooks_get(self):
        calls = []

        def note(*values):
            calls.append(values)
            return 5
        kind = Kind("K", InitOnly("a", only_named=True), Field("b"), InitOnly("c", default=(1,)),
                    InitOnly("d", default=None), Hook(note))
        value = [7]
        record = kind.make(1, 2, a=value)
        self.assertEqual(len(calls), 1)
        self.assertIs(calls[0][0], record)
        self.assertIs(calls[0][1], value)
        self.assertEqual(calls[0][2:], (2, None))
        self.assertEqual(kind.make(1, a=3)["b"], 1)
        self.assertEqual(calls[1][1:], (3, (1,), None))
        self.assertEqual([name for name, _ in record.entries()], ["b"])

    def test_hooks_in_the_order_of_the_whole_kind(self):
        calls = []
        top = Kind("Top", InitOnly("a"), InitOnly("b"))
        kind = Kind("K", InitOnly("c"), InitOnly("a", only_named=True), Hook(lambda record, *rest: calls.append(rest)),
                    above=(top,))
        kind.make(2, 3, a=1)
        self.assertEqual(calls, [(1, 2, 3)])

    def test_init_only_without_hook(self):
        self.assertEqual(shown(Kind("K", InitOnly("a"), Field("b")).make(1, 2)), "K(b=2)")

    def test_hook_completes_a_frozen_record(self):
        calls = []

        def complete(record, extra):
            record["y"] = extra
            for name in ("x", "y", "z"):
                try:
                    record.put(name, 9)
                except Frozen as error:
                    calls.append(error.name)
            calls.append("z" in record)
        kind = Kind("Ice", Field("x"), Field("y", init=False), Field("z", init=False), InitOnly("extra"),
                    Hook(complete), frozen=True)
        record = kind.make(1, 2)
        self.assertEqual(calls, ["x", "y", True])
        self.assertEqual(shown(record), "Ice(x=1, y=2, z=9)")
        self.check_error(Frozen, {"name": "x"}, record.put, "x", 1)

    def test_hook_changes_a_record_that_is_not_frozen(self):
        kind = Kind("K", Field("x"), Hook(lambda record: record.put("x", record["x"] + 1)))
        self.assertEqual(kind.make(1)["x"], 2)

    def test_hooks_that_make_records(self):
        inner = Kind("Inner", Field("x"), frozen=True)

        def nest(record):
            made = inner.make(1)
            try:
                made["x"] = 2
            except Frozen:
                record["y"] = made
        outer = Kind("Outer", Field("y", init=False), Hook(nest), frozen=True)
        self.assertEqual(shown(outer.make()), "Outer(y=Inner(x=1))")


class CallTest(CraftTestCase):
    def setUp(self):
        self.top = Kind("Top", Field("x"), Method("m", lambda record, *rest: ("Top", record["x"], *rest)),
                        Method("only", lambda record: "only"))
        self.left = Kind("Left", Method("m", lambda record, *rest: ("Left", record["x"], *rest)), above=(self.top,))
        self.right = Kind("Right", Method("r", lambda record: "r"), above=(self.top,))
        self.kind = Kind("K", Method("m", self.go_on), above=(self.left, self.right))

    def go_on(self, record, *rest):
        return ("K", *record.call_above(self.kind, "m", *rest))

    def test_call(self):
        record = self.kind.make(1)
        self.assertEqual(record.call("m"), ("K", "Left", 1))
        self.assertEqual(record.call("m", 2, 3), ("K", "Left", 1, 2, 3))
        self.assertEqual(record.call(name="only"), "only")
        self.assertEqual(self.right.make(1).call("m"), ("Top", 1))

    def test_method_gets_the_record_and_the_result_is_returned(self):
        result = []
        kind = Kind("K", Method("m", lambda record, value: (record, value, result)))
        record, value = kind.make(), object()
        told = record.call("m", value)
        self.assertIs(told[0], record)
        self.assertIs(told[1], value)
        self.assertIs(told[2], result)

    def test_no_method(self):
        record = Kind("K", Field("x"), Shared("s", 1), Method("m", nothing)).make(1)
        for value in [*odd_values(), "", "x", "s", "M", "call", EqualToAll(), Stubborn()]:
            self.check_error(NoMethod, {"name": value}, record.call, value)
            self.check_error(NoMethod, {"name": value}, record.call, value, 1, 2)

    def test_exceptions_of_methods_pass_through(self):
        def fail(record):
            raise KeyError("x")
        with self.assertRaises(KeyError):
            Kind("K", Method("m", fail)).make().call("m")

    def test_call_above(self):
        record = self.kind.make(1)
        self.assertEqual(record.call_above(self.kind, "m", 5), ("Left", 1, 5))
        self.assertEqual(record.call_above(self.left, "m"), ("Top", 1))
        self.assertEqual(record.call_above(kind=self.right, name="m"), ("Top", 1))
        self.assertEqual(record.call_above(self.left, "r"), "r")
        self.check_error(NoMethod, {"name": "r"}, record.call_above, self.right, "r")
        self.check_error(NoMethod, {"name": "m"}, record.call_above, self.top, "m")

    def test_call_above_looks_at_the_line_of_the_kind_of_the_record(self):
        self.assertEqual(self.left.make(1).call_above(self.left, "m"), ("Top", 1))
        other = Kind("Other", Method("m", lambda record: "Other"), above=(self.top,))
        low = Kind("Low", above=(self.left, other))
        self.assertEqual(low.make(1).call_above(self.left, "m"), "Other")

    def test_errors_of_call_above(self):
        record = self.kind.make(1)
        for value in [*odd_values(), "K", Kind("K"), Kind, EqualToAll(), Stubborn()]:
            self.check_error(NotInLine, {"value": value}, record.call_above, value, "m")
            self.check_error(NotInLine, {"value": value}, record.call_above, value, value)
            self.check_error(NotInLine, {"value": value}, record.hook_above, value, 1)
            if not isinstance(value, str):
                self.check_error(NoMethod, {"name": value}, record.call_above, self.left, value)
        self.check_error(NotInLine, {"value": self.kind}, self.top.make(1).call_above, self.kind, "m")

    def test_hook_above(self):
        calls = []
        top = Kind("Top", Hook(lambda *values: calls.append(values) or 5))
        mid = Kind("Mid", above=(top,))
        low = Kind("Low", Hook(nothing), above=(mid,))
        record = low.make()
        self.assertIsNone(record.hook_above(low, 1, 2))
        self.assertIs(calls[0][0], record)
        self.assertEqual(calls[0][1:], (1, 2))
        self.assertIsNone(record.hook_above(kind=mid))
        self.assertEqual(calls[1], (record,))
        self.assertIsNone(record.hook_above(top, 1))
        self.assertEqual(len(calls), 2)

    def test_exceptions_of_hooks_above_pass_through(self):
        def fail(record):
            raise KeyError("x")
        top = Kind("Top", Hook(fail))
        low = Kind("Low", Hook(nothing), above=(top,))
        with self.assertRaises(KeyError):
            low.make().hook_above(low)


class KeyableRecordTest(CraftTestCase):
    def test_equal_and_frozen(self):
        for equal, frozen in itertools.product((True, False), repeat=2):
            kind = Kind("K", Field("x"), equal=equal, frozen=frozen)
            self.assertIs(is_keyable(kind.make(1)), frozen or not equal)
            self.assertIs(is_keyable(kind.make([])), not equal)
