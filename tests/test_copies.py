"""Copies: [60], [61] and the module copies."""

import time

from recordcraft.copies import changed, changed_by, deep_copy
from recordcraft.errors import Frozen, MissingNames, TooDeep, UnknownName
from recordcraft.kinds import Kind
from recordcraft.members import Field, Hook, InitOnly
from recordcraft.records import Record, are_equal, shown
from tests.helpers import CraftTestCase, nested, often, too_deep_values

POINT = Kind("Point", Field("x"), Field("y", default=0), order=True, frozen=True)


class ChangedTest(CraftTestCase):
    def test_changes(self):
        record = POINT.make(1, 2)
        self.assertEqual(shown(changed(record, x=5)), "Point(x=5, y=2)")
        self.assertEqual(shown(changed(record, y=5, x=6)), "Point(x=6, y=5)")
        self.assertEqual(shown(changed_by(record, {"y": 5})), "Point(x=1, y=5)")
        self.assertEqual(shown(changed(record=record)), "Point(x=1, y=2)")
        self.assertEqual(shown(changed_by(record=record, changes={})), "Point(x=1, y=2)")
        self.assertEqual(shown(record), "Point(x=1, y=2)")
        self.assertIs(changed(record).kind, POINT)

    def test_values_are_the_very_objects_and_not_judged(self):
        value, new = nested(60), [[]]
        new.append(new)
        record = POINT.make(value)
        after = changed(record, y=new)
        self.assertIs(after["x"], value)
        self.assertIs(after["y"], new)

    def test_changes_stay_as_they_are(self):
        changes = {"y": 5}
        changed_by(POINT.make(1), changes)
        self.assertEqual(changes, {"y": 5})

    def test_unknown_names(self):
        record = Kind("K", Field("x"), Field("y", init=False), InitOnly("i", default=1)).make(1)
        for name in ("other", "y", "", "self", "record", "changes", "a b"):
            self.check_error(UnknownName, {"name": name}, changed_by, record, {"x": 1, name: 1, "no": 2})
        self.check_error(UnknownName, {"name": "y"}, changed, record, y=1)
        self.check_error(UnknownName, {"name": "self"}, lambda: changed(record, self=1))

    def test_fields_without_init_are_made_anew(self):
        kind = Kind("K", Field("x"), Field("y", init=False, default=0), Field("z", init=False))
        record = kind.make(1)
        record["y"] = record["z"] = 5
        self.assertEqual(shown(changed(record, x=2)), "K(x=2, y=0, z=unset)")

    def test_hooks_and_init_only_members(self):
        calls = []
        kind = Kind("K", Field("x"), InitOnly("i", default=1), Hook(lambda record, i: calls.append((record["x"], i))))
        record = kind.make(1, 5)
        changed(record)
        changed(record, i=7, x=2)
        self.assertEqual(calls, [(1, 5), (1, 1), (2, 7)])

    def test_init_only_member_without_default(self):
        record = Kind("K", Field("x"), InitOnly("i"), InitOnly("j", only_named=True)).make(1, 2, j=3)
        self.check_error(MissingNames, {"names": ("i", "j")}, changed, record, x=5)
        self.check_error(UnknownName, {"name": "no"}, changed, record, no=5)
        self.assertEqual(shown(changed(record, i=1, j=2)), "K(x=1)")

    def test_factories_are_called_only_for_fields_without_value(self):
        calls = []
        kind = Kind("K", Field("x", factory=lambda: calls.append("x")),
                    Field("y", factory=lambda: calls.append("y"), init=False))
        record = kind.make(5)
        calls.clear()
        changed(record)
        self.assertEqual(calls, ["y"])

    def test_only_named_fields(self):
        kind = Kind("K", Field("x"), Field("y", only_named=True), only_named=True)
        self.assertEqual(shown(changed(kind.make(x=1, y=2), y=3)), "K(x=1, y=3)")

    def test_unset_fields_with_init(self):
        """Making sets all fields with init, but reading plain data does not."""
        calls = []
        kind = Kind("K", Field("x"), Field("y", factory=lambda: calls.append(1)), Field("z", default=1))
        record = Record(kind, {})
        self.check_error(MissingNames, {"names": ("x",)}, changed, record)
        self.assertEqual(shown(changed(record, x=5)), "K(x=5, y=None, z=1)")
        self.assertEqual(calls, [1])

    def test_frozen_records(self):
        after = changed(POINT.make(1), x=2)
        self.check_error(Frozen, {"name": "x"}, after.put, "x", 3)


class DeepCopyTest(CraftTestCase):
    def test_simple_values(self):
        for value in (None, True, False, 0, 10 ** 999, "", "a"):
            self.check_same(deep_copy(value), value)

    def test_all_is_new(self):
        inside = [1]
        value = [inside, (inside, {"b": inside, "a": POINT.make(inside, (1,))}), inside]
        copy = deep_copy(value)
        self.assertEqual(shown(copy), shown(value))
        self.assertTrue(are_equal(copy, value))
        old, new = self.objects(value), self.objects(copy)
        self.assertEqual(len(old), len(new))
        self.assertEqual(set(map(id, old)) & set(map(id, new)), set())
        self.assertEqual(len(set(map(id, new))), len(new))
        self.assertEqual(list(copy[1][1]), ["b", "a"])
        inside.append(2)
        self.assertIn("[1]", shown(copy))

    def objects(self, value):
        """All lists, dicts, tuples and records in a value, as often as they occur."""
        if isinstance(value, (list, tuple)):
            return [value] + [one for item in value for one in self.objects(item)]
        if isinstance(value, dict):
            return [value] + [one for item in value.values() for one in self.objects(item)]
        if hasattr(value, "entries"):
            return [value] + [one for _, item in value.entries() for one in self.objects(item)]
        return []

    def test_records(self):
        calls = []
        kind = Kind("K", Field("x", factory=lambda: calls.append(1)), Field("y", init=False), Field("z", init=False),
                    InitOnly("i", only_named=True), Hook(lambda record, i: calls.append(2)), equal=False)
        record = kind.build((), {"x": [1], "i": 5})
        record["z"] = (1,)
        calls.clear()
        copy = deep_copy(record)
        self.assertEqual(calls, [])
        self.assertIs(copy.kind, kind)
        self.assertEqual(shown(copy), "K(x=[1], y=unset, z=(1,))")
        self.assertIsNot(copy["x"], record["x"])
        self.assertFalse(copy == record)
        copy["y"] = 5
        self.assertNotIn("y", record)

    def test_frozen_records_are_frozen_at_once(self):
        copies = []
        kind = Kind("Ice", Field("x"), Field("y", init=False), Hook(lambda record: copies.append(deep_copy(record))),
                    frozen=True)
        record = kind.make(1)
        for copy in (deep_copy(record), copies[0]):
            for name in ("x", "y"):
                self.check_error(Frozen, {"name": name}, copy.put, name, 1)
            self.assertEqual(shown(copy), "Ice(x=1, y=unset)")

    def test_too_deep(self):
        for value in too_deep_values():
            started = time.monotonic()
            self.check_error(TooDeep, {}, deep_copy, value)
            self.assertLess(time.monotonic() - started, 2)
        self.assertEqual(shown(deep_copy(nested(50))), shown(nested(50)))

    def test_each_occurrence_is_copied_by_itself(self):
        copy = deep_copy(often(3))
        copy[0][0][0][0] = 9
        self.assertEqual(shown(copy).count("9"), 1)
        self.assertEqual(deep_copy(value=[1]), [1])
