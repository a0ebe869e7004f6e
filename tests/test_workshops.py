"""Workshops: [75] and the module workshops."""

from recordcraft.errors import (Duplicate, Frozen, GivenTwice, InvalidName, LimitExceeded, MissingNames, NameTaken,
                                NoField, NoKind, NoRecord, NothingToUndo, TooDeep, TooManyValues, UnknownName, Unset)
from recordcraft.kinds import Kind
from recordcraft.members import Field, Hook, InitOnly
from recordcraft.plain import Book
from recordcraft.records import shown
from recordcraft.workshops import DistinctWorkshop, Workshop
from tests.helpers import CraftTestCase, EqualToAll, Stubborn, looped, nested, odd_values, too_deep_values

ITEM = Kind("Item", Field("x"), Field("y", default=0))
ICE = Kind("Ice", Field("x"), Field("y", init=False), frozen=True)
LOOSE = Kind("Loose", Field("x", default=0), equal=False)
HOLED = Kind("Holed", Field("x", default=0), Field("h", init=False), Field("n", init=False, compare=False))
BOOK = Book(ITEM, ICE, LOOSE, HOLED)
BOTH = (Workshop, DistinctWorkshop)


def state_of(shop):
    """All that can be seen of a workshop."""
    return shop.record_names, shop.log, [(name, id(shop[name]), shown(shop[name])) for name in shop.record_names]


class ShopTestCase(CraftTestCase):
    def check_refused(self, shop, kind, fields, function, *values):
        """The call raises this error, and nothing has changed."""
        before = state_of(shop)
        self.check_error(kind, fields, function, *values)
        self.assertEqual(state_of(shop), before)

    def filled(self, make=Workshop):
        shop = make(BOOK)
        shop.add("a", "Item", (1,))
        shop.add("b", "Item", (2,), {"y": 5})
        shop.add("c", "Ice", (3,))
        return shop


class WorkshopTest(ShopTestCase):
    def test_interface(self):
        self.check_same(Workshop.MAX_CHANGES, 60)
        self.check_same(DistinctWorkshop.MAX_CHANGES, 60)
        self.assertEqual(DistinctWorkshop.__bases__, (Workshop,))
        for name in ("__init__", "record_names", "log", "__len__", "__contains__", "__getitem__", "add", "fill", "drop",
                     "undo", "clash"):
            self.assertIn(name, vars(Workshop))
        self.assertIn("__init__", vars(DistinctWorkshop))
        self.assertEqual(len(DistinctWorkshop(book=BOOK)), 0)

    def test_empty(self):
        for make in BOTH:
            shop = make(BOOK)
            self.check_same((shop.record_names, shop.log, len(shop)), ((), (), 0))
            self.assertIs("a" in shop, False)
            self.check_error(NoRecord, {"name": "a"}, lambda: shop["a"])
            self.check_error(NothingToUndo, {}, shop.undo)

    def test_add(self):
        for make in BOTH:
            shop = self.filled(make)
            self.check_same(shop.record_names, ("a", "b", "c"))
            self.check_same(len(shop), 3)
            self.check_same(shop.log, (("add", "a"), ("add", "b"), ("add", "c")))
            self.assertEqual([shown(shop[name]) for name in shop.record_names],
                             ["Item(x=1, y=0)", "Item(x=2, y=5)", "Ice(x=3, y=unset)"])
            self.assertIs(shop["a"].kind, ITEM)
            self.assertIs(shop["a"], shop["a"])
            self.assertIs("b" in shop, True)
            self.assertIsNone(shop.add(name="d", kind="Item", values=(), named={"x": 7}))
            self.assertIsNone(shop.add("e", "Loose", named=None))
            self.assertEqual((shop["d"]["x"], shop["e"]["x"]), (7, 0))

    def test_arguments_are_not_modified(self):
        named = {"x": 1}
        shop = Workshop(BOOK)
        shop.add("a", "Item", (), named)
        shop["a"]["x"] = 2
        shop.clash("Item", (), named)
        self.assertEqual(named, {"x": 1})

    def test_names_of_no_record(self):
        shop = self.filled()
        for name in [*odd_values(), "", "d", "A", "a ", EqualToAll(), Stubborn(), too_deep_values()[-1]]:
            self.assertIs(name in shop, False)
            self.check_refused(shop, NoRecord, {"name": name}, lambda: shop[name])
            self.check_refused(shop, NoRecord, {"name": name}, shop.drop, name)
            self.check_refused(shop, NoRecord, {"name": name}, shop.fill, name, "no", 1)

    def test_is_not_iterated_over(self):
        with self.assertRaises(TypeError):
            list(self.filled())

    def test_names_that_are_none(self):
        for make in BOTH:
            shop = self.filled(make)
            for name in [*odd_values(), "", "1a", "a b", "a-b", "class", "self", "a\n", "x" * 41, *looped()]:
                self.check_refused(shop, InvalidName, {"value": name}, shop.add, name, "No")
            shop.add("x" * 40, "Item", (9,))
            self.assertEqual(shop.record_names[-1], "x" * 40)

    def test_names_that_are_taken(self):
        for make in BOTH:
            shop = self.filled(make)
            for name in ("a", "b", "c"):
                self.check_refused(shop, NameTaken, {"name": name}, shop.add, name, "No")

    def test_kinds_that_the_book_does_not_have(self):
        for make in BOTH:
            shop = self.filled(make)
            for kind in [*odd_values(), "", "item", ITEM, EqualToAll(), Stubborn(), *looped()]:
                self.check_refused(shop, NoKind, {"name": kind}, shop.add, "d", kind, (1, 2, 3), {"no": 1})
                self.check_refused(shop, NoKind, {"name": kind}, shop.clash, kind, (1, 2, 3), {"no": 1})

    def test_errors_of_making(self):
        for make in BOTH:
            shop = self.filled(make)
            for error, fields, values, named in ((TooManyValues, {"limit": 2}, (1, 2, 3), {"no": 1}),
                                                 (UnknownName, {"name": "no"}, (1,), {"no": 1}),
                                                 (GivenTwice, {"name": "x"}, (1,), {"x": 1}),
                                                 (MissingNames, {"names": ("x",)}, (), None)):
                self.check_refused(shop, error, fields, shop.add, "d", "Item", values, named)
                self.check_refused(shop, error, fields, shop.clash, "Item", values, named)

    def test_errors_of_factories_and_hooks(self):
        def fail(*values):
            raise KeyError("own")
        book = Book(Kind("F", Field("x", factory=fail)), Kind("H", Field("x", default=1), Hook(fail)))
        for make in BOTH:
            shop = make(book)
            for kind in ("F", "H"):
                with self.assertRaises(KeyError):
                    shop.add("a", kind)
                with self.assertRaises(KeyError):
                    shop.clash(kind)
            self.check_same((shop.record_names, shop.log), ((), ()))

    def test_values_are_not_judged(self):
        shop = Workshop(BOOK)
        value = nested(60)
        shop.add("a", "Item", (value,))
        shop.add("b", "Item", (object,))
        self.assertIs(shop["a"]["x"], value)
        shop.fill("b", "x", value)
        self.assertIs(shop["b"]["x"], value)

    def test_fill(self):
        for make in BOTH:
            shop = self.filled(make)
            record = shop["a"]
            self.assertIsNone(shop.fill("a", "y", 7))
            self.assertIsNone(shop.fill(name="b", field="x", value=[1]))
            self.assertIs(shop["a"], record)
            self.assertEqual((shown(record), shown(shop["b"])), ("Item(x=1, y=7)", "Item(x=[1], y=5)"))
            self.check_same(shop.log[3:], (("fill", "a", "y"), ("fill", "b", "x")))
            self.check_same(shop.record_names, ("a", "b", "c"))

    def test_fields_that_cannot_be_filled(self):
        for make in BOTH:
            shop = self.filled(make)
            for field in [*odd_values(), "", "z", "X", EqualToAll(), Stubborn(), *looped()]:
                self.check_refused(shop, NoField, {"name": field}, shop.fill, "a", field, 1)
            for field in ("x", "y"):
                self.check_refused(shop, Frozen, {"name": field}, shop.fill, "c", field, 1)
            self.assertNotIn("y", shop["c"])

    def test_drop(self):
        for make in BOTH:
            shop = self.filled(make)
            self.assertIsNone(shop.drop("b"))
            self.check_same((shop.record_names, len(shop), "b" in shop), (("a", "c"), 2, False))
            self.check_error(NoRecord, {"name": "b"}, lambda: shop["b"])
            self.check_same(shop.log[3:], (("drop", "b"),))
            self.assertIsNone(shop.drop(name="a"))
            shop.add("b", "Item", (1,))
            self.check_same(shop.record_names, ("c", "b"))

    def test_properties_cannot_be_set(self):
        shop = Workshop(BOOK)
        for name in ("record_names", "log"):
            with self.assertRaises(AttributeError):
                setattr(shop, name, ())

    def test_workshops_are_apart(self):
        one, other = Workshop(BOOK), Workshop(BOOK)
        one.add("a", "Item", (1,))
        self.check_same((other.record_names, other.log), ((), ()))


class UndoTest(ShopTestCase):
    def test_add(self):
        for make in BOTH:
            shop = self.filled(make)
            self.assertIsNone(shop.undo())
            self.check_same((shop.record_names, shop.log), (("a", "b"), (("add", "a"), ("add", "b"))))
            shop.undo()
            shop.undo()
            self.check_same((shop.record_names, shop.log, len(shop)), ((), (), 0))
            self.check_error(NothingToUndo, {}, shop.undo)
            shop.add("a", "Item", (1,))
            self.check_same(shop.record_names, ("a",))

    def test_drop_keeps_the_order_and_the_record(self):
        for make in BOTH:
            for name in ("a", "b", "c"):
                shop = self.filled(make)
                before = state_of(shop)
                shop.drop(name)
                shop.undo()
                self.assertEqual(state_of(shop), before)

    def test_fill(self):
        for make in BOTH:
            shop = self.filled(make)
            value = [1]
            shop.fill("a", "y", value)
            shop.fill("a", "y", 9)
            shop.fill("a", "x", 8)
            shop.undo()
            self.assertEqual(shown(shop["a"]), "Item(x=1, y=9)")
            shop.undo()
            self.assertIs(shop["a"]["y"], value)
            shop.undo()
            self.assertEqual(shown(shop["a"]), "Item(x=1, y=0)")
            self.assertEqual(len(shop.log), 3)

    def test_field_is_unset_again(self):
        shop = Workshop(BOOK)
        shop.add("a", "Holed")
        shop.fill("a", "h", None)
        shop.fill("a", "h", 2)
        shop.undo()
        self.assertEqual(shown(shop["a"]), "Holed(x=0, h=None, n=unset)")
        shop.undo()
        self.assertEqual(shown(shop["a"]), "Holed(x=0, h=unset, n=unset)")
        self.check_error(Unset, {"name": "h"}, lambda: shop["a"]["h"])

    def test_other_fields_stay_as_they_are(self):
        shop = self.filled()
        shop.fill("a", "y", 7)
        shop["a"]["x"] = "put"
        shop["a"]["y"] = "put"
        shop.undo()
        self.assertEqual(shown(shop["a"]), 'Item(x="put", y=0)')

    def test_latest_change_first(self):
        for make in BOTH:
            shop = self.filled(make)
            states = [state_of(shop)]
            changes = [lambda: shop.fill("b", "x", 7), lambda: shop.drop("a"), lambda: shop.add("a", "Item", (9,)),
                       lambda: shop.fill("a", "y", 8), lambda: shop.drop("b"), lambda: shop.drop("a"),
                       lambda: shop.add("b", "Loose"), lambda: shop.drop("c"), lambda: shop.add("c", "Item", (0, 0))]
            for change in changes:
                change()
                states.append(state_of(shop))
            self.assertEqual(len(shop.log), 12)
            for state in states[-2::-1]:
                shop.undo()
                self.assertEqual(state_of(shop), state)

    def test_undo_is_not_a_change(self):
        shop = self.filled()
        shop.drop("a")
        shop.undo()
        shop.undo()
        self.check_same(shop.log, (("add", "a"), ("add", "b")))


class LimitTest(ShopTestCase):
    def full(self, make):
        """A workshop with three records and 60 changes."""
        shop = self.filled(make)
        for at in range(57):
            shop.fill("a", "y", at)
        self.assertEqual(len(shop.log), 60)
        return shop

    def test_the_61st_change_is_refused(self):
        for make in BOTH:
            shop = self.full(make)
            self.check_refused(shop, LimitExceeded, {"limit": 60}, shop.add, "d", "Item", (9,))
            self.check_refused(shop, LimitExceeded, {"limit": 60}, shop.fill, "a", "y", 100)
            self.check_refused(shop, LimitExceeded, {"limit": 60}, shop.drop, "a")
            self.assertIsNone(shop.clash("Item", (9,)))

    def test_undo_makes_room(self):
        for make in BOTH:
            shop = self.full(make)
            shop.undo()
            shop.drop("b")
            self.check_refused(shop, LimitExceeded, {"limit": 60}, shop.drop, "a")
            for _ in range(60):
                shop.undo()
            self.check_error(NothingToUndo, {}, shop.undo)

    def test_all_other_errors_come_first(self):
        for make in BOTH:
            shop = self.full(make)
            self.check_refused(shop, InvalidName, {"value": 5}, shop.add, 5, "Item", (9,))
            self.check_refused(shop, NameTaken, {"name": "a"}, shop.add, "a", "Item", (9,))
            self.check_refused(shop, NoKind, {"name": "No"}, shop.add, "d", "No", (9,))
            self.check_refused(shop, MissingNames, {"names": ("x",)}, shop.add, "d", "Item")
            self.check_refused(shop, NoRecord, {"name": "d"}, shop.fill, "d", "y", 1)
            self.check_refused(shop, NoField, {"name": "z"}, shop.fill, "a", "z", 1)
            self.check_refused(shop, Frozen, {"name": "x"}, shop.fill, "c", "x", 1)
            self.check_refused(shop, NoRecord, {"name": "d"}, shop.drop, "d")
        self.check_refused(shop, Duplicate, {"name": "b"}, shop.add, "d", "Item", (2, 5))
        shop["a"]["x"] = 2
        self.check_refused(shop, Duplicate, {"name": "b"}, shop.fill, "a", "y", 5)
        self.check_refused(shop, TooDeep, {}, shop.fill, "a", "y", nested(51, {}))

    def test_hooks_are_called_before_the_limit_is_looked_at(self):
        calls = []
        shop = Workshop(Book(Kind("K", Field("x", default=1), Hook(lambda record: calls.append(1)))))
        for at in range(60):
            shop.add(f"r{at}", "K")
        self.check_error(LimitExceeded, {"limit": 60}, shop.add, "last", "K")
        self.assertEqual((len(calls), len(shop)), (61, 60))


class DistinctTest(ShopTestCase):
    def test_add(self):
        shop = self.filled(DistinctWorkshop)
        self.check_refused(shop, Duplicate, {"name": "a"}, shop.add, "d", "Item", (1, 0))
        self.check_refused(shop, Duplicate, {"name": "b"}, shop.add, "d", "Item", (), {"x": 2, "y": 5})
        shop.add("d", "Item", (True, 0))
        shop.add("e", "Item", (1, False))
        self.assertEqual(len(shop), 5)

    def test_other_workshops_do_not_ask(self):
        shop = self.filled()
        shop.add("d", "Item", (1, 0))
        shop.fill("b", "x", 1)
        shop.fill("b", "y", 0)
        self.assertTrue(shop["a"] == shop["b"] == shop["d"])

    def test_first_equal_record_is_named(self):
        shop = DistinctWorkshop(BOOK)
        shop.add("b", "Item", (1,))
        shop.add("a", "Item", (2,))
        shop["a"]["x"] = 1
        self.check_refused(shop, Duplicate, {"name": "b"}, shop.add, "c", "Item", (1,))
        shop.drop("b")
        self.check_refused(shop, Duplicate, {"name": "a"}, shop.add, "c", "Item", (1,))
        shop.undo()
        self.assertEqual(shop.clash("Item", (1,)), "b")

    def test_fill(self):
        shop = self.filled(DistinctWorkshop)
        shop.fill("a", "y", 5)
        self.check_refused(shop, Duplicate, {"name": "b"}, shop.fill, "a", "x", 2)
        self.check_refused(shop, Duplicate, {"name": "a"}, shop.fill, "b", "x", 1)
        shop.fill("a", "x", 1)
        shop.fill("a", "x", 3)
        shop.fill("b", "x", 1)
        self.assertEqual((shown(shop["a"]), shown(shop["b"])), ("Item(x=3, y=5)", "Item(x=1, y=5)"))

    def test_fill_asks_only_the_other_records(self):
        shop = DistinctWorkshop(BOOK)
        shop.add("a", "Item", (1,))
        shop.fill("a", "x", 1)
        shop.add("b", "Holed")
        shop.fill("b", "x", 5)
        self.assertEqual(len(shop.log), 4)

    def test_kinds_without_equal(self):
        shop = DistinctWorkshop(BOOK)
        for name in ("a", "b", "c"):
            shop.add(name, "Loose")
        shop.fill("a", "x", 0)
        self.assertIsNone(shop.clash("Loose"))
        self.assertEqual(shop.record_names, ("a", "b", "c"))

    def test_fields_that_are_not_set(self):
        shop = DistinctWorkshop(BOOK)
        shop.add("a", "Holed", (1,))
        self.check_refused(shop, Unset, {"name": "h"}, shop.add, "b", "Holed", (2,))
        shop.add("i", "Item", (1,))
        self.check_refused(shop, Unset, {"name": "h"}, shop.clash, "Holed")
        shop.fill("a", "h", 1)
        self.check_refused(shop, Unset, {"name": "h"}, shop.add, "b", "Holed", (2,))
        shop.fill("a", "n", 1)
        self.assertEqual(len(shop.log), 4)

    def test_errors_of_comparing_pass_through_fill(self):
        shop = DistinctWorkshop(BOOK)
        shop.add("a", "Item", (1,))
        shop.add("b", "Item", (2,))
        hole = HOLED.make()
        shop.fill("a", "x", hole)
        self.check_refused(shop, Unset, {"name": "h"}, shop.fill, "b", "x", hole)
        self.check_refused(shop, TooDeep, {}, shop.fill, "b", "x", nested(51, []))
        self.check_refused(shop, TooDeep, {}, shop.fill, "b", "x", shop["b"])
        self.check_refused(shop, TooDeep, {}, shop.add, "c", "Item", (nested(51, []),))
        self.check_refused(shop, TooDeep, {}, shop.clash, "Item", (nested(51, []),))

    def test_refused_fill_puts_unset_fields_back(self):
        kind = Kind("K", Field("x"), Field("h", compare=False, init=False))
        shop = DistinctWorkshop(Book(kind))
        shop.add("a", "K", (1,))
        shop.add("b", "K", (2,))
        self.check_refused(shop, TooDeep, {}, shop.fill, "b", "h", nested(51, []))
        self.assertNotIn("h", shop["b"])
        shop["a"]["x"] = 2
        self.check_refused(shop, Duplicate, {"name": "a"}, shop.fill, "b", "h", 5)
        self.assertNotIn("h", shop["b"])

    def test_first_equal_record_ends_the_search(self):
        shop = DistinctWorkshop(BOOK)
        shop.add("a", "Item", (1,))
        shop.add("b", "Item", (2,))
        shop["b"]["y"] = nested(51)
        self.check_error(Duplicate, {"name": "a"}, shop.add, "c", "Item", (1,))
        self.check_error(TooDeep, {}, shop.add, "c", "Item", (3,))
        self.assertEqual(shop.clash("Item", (1,)), "a")

    def test_values_are_not_judged_without_others(self):
        shop = DistinctWorkshop(BOOK)
        shop.add("a", "Item", (nested(51),))
        shop.fill("a", "y", looped()[0])
        self.assertEqual(len(shop.log), 2)

    def test_records_that_contain_the_record(self):
        """While a record is compared, records in which it occurs have its new value, too."""
        shop = DistinctWorkshop(BOOK)
        shop.add("a", "Item", (1,))
        shop.add("b", "Item", (2,))
        shop.fill("b", "y", [shop["a"]])
        self.check_refused(shop, TooDeep, {}, shop.fill, "a", "x", [shop["b"]])
        self.assertEqual(shown(shop["b"]), "Item(x=2, y=[Item(x=1, y=0)])")

    def test_undo_asks_nothing(self):
        shop = DistinctWorkshop(BOOK)
        shop.add("a", "Item", (1,))
        shop.fill("a", "x", 2)
        shop.add("b", "Item", (1,))
        shop.drop("b")
        shop.undo()
        shop.undo()
        shop.undo()
        self.assertEqual((shown(shop["a"]), shop.record_names), ("Item(x=1, y=0)", ("a",)))

    def test_hooks_and_factories_of_refused_additions(self):
        calls = []

        def make_list():
            calls.append("factory")
            return []
        kind = Kind("K", Field("x", factory=make_list), Hook(lambda record: calls.append("hook")))
        shop = DistinctWorkshop(Book(kind))
        shop.add("a", "K")
        self.check_error(Duplicate, {"name": "a"}, shop.add, "b", "K")
        self.assertEqual(calls, ["factory", "hook"] * 2)
        self.check_error(NameTaken, {"name": "a"}, shop.add, "a", "K")
        self.check_error(InvalidName, {"value": ""}, shop.add, "", "K")
        self.assertEqual(len(calls), 4)


class ClashTest(ShopTestCase):
    def test_clash(self):
        for make in BOTH:
            shop = self.filled(make)
            before = state_of(shop)
            self.check_same(shop.clash("Item", (1,)), "a")
            self.check_same(shop.clash(kind="Item", values=(), named={"x": 2, "y": 5}), "b")
            self.assertIsNone(shop.clash("Item", (3,)))
            self.assertIsNone(shop.clash("Item", (True,)))
            self.assertIsNone(shop.clash("Loose"))
            self.check_error(Unset, {"name": "y"}, shop.clash, "Ice", (3,))
            self.assertEqual(state_of(shop), before)

    def test_first_one(self):
        shop = self.filled()
        shop.add("d", "Item", (2, 5))
        self.assertEqual(shop.clash("Item", (2, 5)), "b")
        shop.drop("b")
        self.assertEqual(shop.clash("Item", (2, 5)), "d")

    def test_factories_and_hooks_are_called(self):
        calls = []
        kind = Kind("K", Field("x", factory=lambda: calls.append("factory")), InitOnly("i", default=1),
                    Hook(lambda record, i: calls.append(i)))
        shop = Workshop(Book(kind))
        self.assertIsNone(shop.clash("K", (), {"i": 5}))
        self.assertEqual(calls, ["factory", 5])
        self.check_error(UnknownName, {"name": "no"}, shop.clash, "K", (), {"no": 5})
        self.assertEqual(len(calls), 2)
