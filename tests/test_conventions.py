"""The conventions [0] to [4], and the differences from CPython."""

import inspect
import itertools
import pathlib
import unittest

import recordcraft
from recordcraft import copies, kinds, lines, members, plain, records, shelves, sorting, tables, texts, workshops
from recordcraft.errors import InvalidAnswer, InvalidKind, InvalidMember, NotInLine, RecordcraftError
from recordcraft.kinds import Kind
from recordcraft.members import Field, Hook, InitOnly, Method
from recordcraft.records import are_equal, compare, is_keyable, shown
from recordcraft.shelves import Shelf
from tests.helpers import CraftTestCase, nothing

INTERFACE = {
    records: ("are_equal", "compare", "is_keyable", "is_same_key", "shown", "Record"),
    members: ("Member", "Field", "InitOnly", "Shared", "Method", "Hook"),
    lines: ("check_ring",),
    kinds: ("Kind",),
    copies: ("changed", "changed_by", "deep_copy"),
    shelves: ("Shelf",),
    sorting: ("sorted_values",),
    plain: ("plain", "Book"),
    workshops: ("Workshop", "DistinctWorkshop"),
    texts: ("read_book",),
    tables: ("record_table",),
}


SIGNATURES = {
    records: {"are_equal": "(one, other)", "compare": "(one, other)", "is_keyable": "(value)",
              "is_same_key": "(one, other)", "shown": "(value)"},
    records.Record: {"put": "(self, name, value)", "entries": "(self)", "call": "(self, name, *values)",
                     "call_above": "(self, kind, name, *values)", "hook_above": "(self, kind, *values)"},
    members.Field: {"__init__": "(self, name, **options)", "of": "(name, options)", "is_key": "(self)"},
    members.InitOnly: {"__init__": "(self, name, **options)", "of": "(name, options)"},
    members.Shared: {"__init__": "(self, name, value)"},
    members.Method: {"__init__": "(self, name, function)"},
    members.Hook: {"__init__": "(self, function)"},
    lines: {"check_ring": "(above, ring)"},
    kinds.Kind: {"__init__": "(self, name, *members, above=(), **options)",
                 "of": "(name, members, above=(), options=None)", "is_below": "(self, other)", "shared": "(self, name)",
                 "signature": "(self)", "flat": "(self, name)", "bind": "(self, values, named)",
                 "make": "(self, *values, **named)", "build": "(self, values, named)"},
    copies: {"changed": "(record, **changes)", "changed_by": "(record, changes)", "deep_copy": "(value)"},
    shelves.Shelf: {"keep": "(self, value, entry)", "take": "(self, value)", "pairs": "(self)"},
    sorting: {"sorted_values": "(values, *, by=None, down=False)"},
    plain: {"plain": "(value)"},
    plain.Book: {"__init__": "(self, *kinds)", "read": "(self, data)"},
    workshops.Workshop: {"__init__": "(self, book)", "add": "(self, name, kind, values=(), named=None)",
                         "fill": "(self, name, field, value)", "drop": "(self, name)", "undo": "(self)",
                         "clash": "(self, kind, values=(), named=None)"},
    workshops.DistinctWorkshop: {"__init__": "(self, book)", "add": "(self, name, kind, values=(), named=None)",
                                 "fill": "(self, name, field, value)"},
    texts: {"read_book": "(text)"},
    tables: {"record_table": "(records, *names)"},
}
PROPERTIES = {records.Record: ("kind",), plain.Book: ("kind_names",), workshops.Workshop: ("record_names", "log")}


class PlaceTest(unittest.TestCase):
    def test_names_of_parameters(self):
        for owner, told in SIGNATURES.items():
            for name, signature in told.items():
                self.assertIn(name, vars(owner))
                self.assertEqual(str(inspect.signature(getattr(owner, name))), signature, name)

    def test_properties(self):
        for owner, names in PROPERTIES.items():
            for name in names:
                self.assertIsInstance(vars(owner)[name], property)

    def test_interface_is_defined_where_it_is_listed(self):
        for module, names in INTERFACE.items():
            for name in names:
                self.assertEqual(getattr(module, name).__module__, module.__name__)

    def test_package_holds_only_python_files(self):
        folder = pathlib.Path(recordcraft.__file__).parent
        for path in folder.iterdir():
            self.assertTrue(path.suffix == ".py" or path.name == "__pycache__", path)


class ConventionsTest(CraftTestCase):
    def test_arguments_are_not_modified(self):
        values, named, options, changes = (1,), {"y": 2}, {"order": True}, {"x": 3}
        kind = Kind.of("K", (Field("x"), Field("y")), (), options)
        record = kind.build(values, named)
        kind.bind(values, named)
        copies.changed_by(record, changes)
        listed = [2, 1]
        sorting.sorted_values(listed)
        self.assertEqual((values, named, options, changes, listed), ((1,), {"y": 2}, {"order": True}, {"x": 3}, [2, 1]))

    def test_returned_lists_and_dicts_are_new(self):
        kind = Kind("K", Field("x"), InitOnly("i", default=1))
        named = {"x": 1}
        bound = kind.bind((), named)
        bound["x"] = bound["i"] = 5
        self.assertEqual((named, kind.bind((), named)), ({"x": 1}, {"x": 1}))
        record = kind.build((), named)
        named["x"] = 7
        self.assertEqual(record["x"], 1)

    def test_records_do_not_share_values_that_are_put(self):
        kind = Kind("K", Field("x", default=1))
        one, other = kind.make(), kind.make()
        one["x"] = 2
        self.assertEqual((other["x"], kind.make()["x"], kind.signature()), (1, 1, "(x=1)"))

    def test_lists_are_not_tuples(self):
        top = Kind("Top")
        self.check_error(InvalidKind, {"rule": "above", "item": None}, Kind, "K", above=[top])
        self.check_error(InvalidAnswer, {"part": "form"}, lines.check_ring, (top,), [top, top])
        self.assertIs(are_equal((1,), [1]), False)
        self.assertIs(is_keyable([1]), False)

    def test_truth_values_are_not_integers(self):
        self.assertIs(are_equal(1, True), False)
        self.assertIs(are_equal(0, False), False)
        shelf = Shelf()
        shelf.keep(1, "a")
        self.assertIs(True in shelf, False)

    def test_integers_are_not_truth_values(self):
        for value in (0, 1):
            self.check_error(InvalidMember, {"rule": "value", "item": "init"}, Field, "x", init=value)
            self.check_error(InvalidKind, {"rule": "value", "item": "show"}, Kind, "K", show=value)

    def test_large_integers_and_texts(self):
        large, text = 10 ** 1000 - 1, "~ a" * 6666
        self.assertEqual(shown((large, -large)), f"({large}, {-large})")
        self.assertEqual(compare((large, text), (large, text + "a")), -1)
        self.assertEqual(shown(text), f'"{text}"')
        self.check_error(InvalidKind, {"rule": "name", "item": text}, Kind, text)

    def test_calls_that_raise_have_no_other_effect(self):
        record = Kind("K", Field("x")).make(1)
        shelf = Shelf()
        shelf.keep(1, "a")
        for call in (lambda: record.put("y", 1), lambda: shelf.keep([], 1), lambda: shelf.take(2)):
            with self.assertRaises(RecordcraftError):
                call()
        self.assertEqual((list(record.entries()), list(shelf.pairs())), ([("x", 1)], [(1, "a")]))

    def test_two_kinds_are_the_same_only_if_they_are_one_object(self):
        one, other = Kind("K", Field("x")), Kind("K", Field("x"))
        self.assertIs(one.make(1) == other.make(1), False)
        self.check_error(NotInLine, {"value": other}, one.make(1).hook_above, other)


class DifferencesTest(CraftTestCase):
    def test_written_methods_never_take_the_place_of_generated_ones(self):
        kind = Kind("K", Field("x"), *[Method(name, lambda record, *values: 5)
                                       for name in ("__eq__", "__lt__", "equal", "shown", "put", "__init__")])
        self.assertIs(kind.make(1) == kind.make(2), False)
        self.assertEqual(shown(kind.make(1)), "K(x=1)")
        self.assertEqual(kind.make(1).call("__eq__"), 5)

    def test_generated_behavior_is_not_taken_over(self):
        top = Kind("Top", Field("x"), order=True, show=False)
        low = Kind("Low", above=(top,), equal=False)
        record = low.make(1)
        self.assertEqual(shown(record), "Low(x=1)")
        self.assertIs(record == low.make(1), False)

    def test_defaults_must_be_keyable(self):
        self.check_error(InvalidMember, {"rule": "value", "item": "default"}, Field, "x", default=([],))

    def test_record_of_a_kind_without_equal_is_keyable(self):
        record = Kind("K", Field("x"), equal=False).make([])
        self.assertIs(is_keyable(record), True)
        record["x"] = {}
        self.assertIs(is_keyable(record), True)

    def test_no_hash_numbers(self):
        for frozen, equal in itertools.product((True, False), repeat=2):
            with self.assertRaises(TypeError):
                hash(Kind("K", frozen=frozen, equal=equal).make())

    def test_hook_can_complete_a_frozen_record(self):
        kind = Kind("K", Field("x", init=False), Hook(lambda record: record.put("x", 1)), frozen=True)
        self.assertEqual(kind.make()["x"], 1)
        self.assertEqual(Kind("K", Hook(nothing)).make().kind.name, "K")
