"""Shelves: [65] and the module shelves."""

import itertools
import time

from recordcraft.errors import NoEntry, NotKeyable, NotOrdered, TooDeep, Unset
from recordcraft.kinds import Kind
from recordcraft.members import Field
from recordcraft.records import is_same_key
from recordcraft.shelves import Shelf
from tests.helpers import CraftTestCase, EqualToAll, nested, nested_tuple, too_deep_values, values_of_no_sort

POINT = Kind("Point", Field("x"), Field("y", default=0), order=True, frozen=True)
TWIN = Kind("Point", Field("x"), Field("y", default=0), order=True, frozen=True)
LOOSE = Kind("Point", Field("x"), equal=False)
PLAIN = Kind("Plain", Field("x"))
HOLED = Kind("Holed", Field("x"), Field("y", init=False), frozen=True)


def shelf_of(*pairs):
    shelf = Shelf()
    for key, entry in pairs:
        shelf.keep(key, entry)
    return shelf


def keys():
    return [None, True, False, 0, 1, "", "0", "None", "1", (), (1,), (True,), ((1,),), ((), ()), (1, 2), POINT.make(1),
            POINT.make(True), POINT.make(1, (2,)), TWIN.make(1), LOOSE.make(1), LOOSE.make(1), (POINT.make(1),),
            nested_tuple(50), nested_tuple(49), 10 ** 999, "Point(1, 0)", ("a", "b"), ("a, text b",)]


class ShelfTest(CraftTestCase):
    def test_methods_stand_in_the_class(self):
        for name in ("keep", "take", "__getitem__", "__contains__", "__len__", "__bool__", "pairs", "__eq__"):
            self.assertIn(name, vars(Shelf))

    def test_empty(self):
        shelf = Shelf()
        self.check_same(len(shelf), 0)
        self.assertIs(bool(shelf), False)
        self.assertEqual(list(shelf.pairs()), [])
        self.assertIs(1 in shelf, False)

    def test_different_keys(self):
        pairs = list(zip(keys(), itertools.count()))
        shelf = shelf_of(*pairs)
        self.assertEqual(len(shelf), len(pairs))
        self.assertIs(bool(shelf), True)
        for key, entry in pairs:
            self.assertEqual(shelf[key], entry)
            self.assertIs(key in shelf, True)
        for (key, entry), (kept, value) in zip(pairs, shelf.pairs()):
            self.assertIs(kept, key)
            self.assertEqual(value, entry)

    def test_same_keys(self):
        one, other = keys(), keys()
        shelf = shelf_of(*zip(one, itertools.count()))
        for at, key in enumerate(other):
            if is_same_key(key, one[at]):
                self.assertEqual(shelf[key], at)
                shelf.keep(key, "new")
                self.assertEqual(shelf[one[at]], "new")
            else:
                self.assertIs(key in shelf, False)
        self.assertEqual(len(shelf), len(one))
        for key, (kept, _) in zip(one, shelf.pairs()):
            self.assertIs(kept, key)

    def test_key_is_the_value_that_was_kept_first(self):
        first, second = POINT.make(1), POINT.make(1, 0)
        shelf = shelf_of((first, "a"), (5, "b"), (second, "c"))
        pairs = list(shelf.pairs())
        self.assertIs(type(pairs[0]), tuple)
        self.assertIs(pairs[0][0], first)
        self.assertEqual([entry for _, entry in pairs], ["c", "b"])

    def test_take(self):
        shelf = shelf_of((1, "a"), ((2,), "b"), ("3", "c"))
        self.assertEqual(shelf.take((2,)), "b")
        self.assertEqual(shelf.take(value=1), "a")
        self.assertEqual((len(shelf), 1 in shelf, (2,) in shelf, "3" in shelf), (1, False, False, True))
        self.check_error(NoEntry, {"value": 1}, shelf.take, 1)
        self.assertIsNone(shelf.keep(value=1, entry="d"))
        self.assertEqual(list(shelf.pairs()), [("3", "c"), (1, "d")])

    def test_key_that_was_taken_and_kept_again(self):
        first, second = POINT.make(1), POINT.make(1)
        shelf = shelf_of((first, "a"), (2, "b"))
        shelf.take(second)
        shelf.keep(second, "c")
        pairs = list(shelf.pairs())
        self.assertEqual([entry for _, entry in pairs], ["b", "c"])
        self.assertIs(pairs[1][0], second)

    def test_entries_are_not_judged(self):
        entry = nested(60)
        shelf = shelf_of((1, entry), (2, object), (3, None))
        self.assertIs(shelf[1], entry)
        self.assertIs(shelf[2], object)
        self.assertIs(shelf.take(3), None)

    def test_no_entry(self):
        shelf = shelf_of((1, "a"))
        for value in keys():
            if value is not True and value != 1:
                self.check_error(NoEntry, {"value": value}, shelf.take, value)
                self.check_error(NoEntry, {"value": value}, lambda: shelf[value])
                self.assertIs(value in shelf, False)

    def test_not_keyable(self):
        shelf = shelf_of((1, "a"))
        for value in [[], {}, ([],), PLAIN.make(1), POINT.make([]), *values_of_no_sort(), (EqualToAll(),)]:
            self.check_error(NotKeyable, {}, shelf.keep, value, 1)
            self.check_error(NotKeyable, {}, shelf.take, value)
            self.check_error(NotKeyable, {}, lambda: shelf[value])
            self.assertIs(value in shelf, False)
        self.assertEqual(list(shelf.pairs()), [(1, "a")])

    def test_too_deep(self):
        shelf = shelf_of((1, "a"))
        for value in [*too_deep_values(), nested_tuple(51), ([], nested(51))]:
            self.check_error(TooDeep, {}, shelf.keep, value, 1)
            self.check_error(TooDeep, {}, shelf.take, value)
            self.check_error(TooDeep, {}, lambda: shelf[value])
            self.check_error(TooDeep, {}, lambda: value in shelf)

    def test_unset(self):
        shelf = shelf_of((1, "a"))
        for value in (HOLED.make(1), ([], HOLED.make(1))):
            self.check_error(Unset, {"name": "y"}, shelf.keep, value, 1)
            self.check_error(Unset, {"name": "y"}, shelf.take, value)
            self.check_error(Unset, {"name": "y"}, lambda: shelf[value])
            self.check_error(Unset, {"name": "y"}, lambda: value in shelf)

    def test_kept_keys_are_not_judged_again(self):
        loose = LOOSE.make(1)
        shelf = shelf_of((loose, "a"), ((loose, 1), "b"))
        loose["x"] = nested(51)
        self.assertIs(LOOSE.make(1) in shelf, False)
        self.assertEqual(shelf[1] if 1 in shelf else None, None)
        self.check_error(TooDeep, {}, lambda: shelf[loose])
        self.assertEqual(len(list(shelf.pairs())), 2)
        self.assertIs(shelf == shelf, True)

    def test_changed_record_stays_the_same_key(self):
        loose = LOOSE.make(1)
        shelf = shelf_of((loose, "a"))
        loose["x"] = [2]
        self.assertEqual(shelf[loose], "a")

    def test_pairs_while_the_shelf_is_changed(self):
        shelf = shelf_of((1, "a"), (2, "b"))
        for key, entry in shelf.pairs():
            shelf.keep((key,), entry)
        self.assertEqual(len(shelf), 4)

    def test_is_not_iterated_over(self):
        with self.assertRaises(TypeError):
            list(shelf_of((0, 1)))

    def test_many_keys(self):
        started = time.monotonic()
        shelf = Shelf()
        for at in range(3000):
            shelf.keep(POINT.make(at, (str(at),)), at)
        for at in range(3000):
            self.assertEqual(shelf[POINT.make(at, (str(at),))], at)
        self.assertLess(time.monotonic() - started, 20)


class EqualShelvesTest(CraftTestCase):
    def test_equal(self):
        self.assertIs(Shelf() == Shelf(), True)
        self.assertIs(Shelf() != Shelf(), False)
        one = shelf_of((1, "a"), (POINT.make(1), [1]))
        other = shelf_of((POINT.make(1), [1]), (1, "a"))
        self.assertIs(one == other, True)
        self.assertIs(other == one, True)
        self.assertIs(one != other, False)

    def test_not_equal(self):
        one = shelf_of((1, "a"), (2, "b"))
        for other in (shelf_of((1, "a")), shelf_of((1, "a"), (3, "b")), shelf_of((1, "a"), (2, "c")),
                      shelf_of((True, "a"), (2, "b")), shelf_of((1, "a"), (2, "b"), (3, "c")), Shelf()):
            self.assertIs(one == other, False)
            self.assertIs(other == one, False)
            self.assertIs(one != other, True)
        self.assertIs(shelf_of((1, 1)) == shelf_of((1, True)), False)

    def test_other_values(self):
        shelf = shelf_of((1, "a"))
        for value in [{1: "a"}, [(1, "a")], None, POINT.make(1), *values_of_no_sort()]:
            self.assertIs(shelf == value, False)
            self.assertIs(shelf != value, True)

    def test_exceptions_of_are_equal_pass_through(self):
        hole = HOLED.make(1)
        self.check_error(Unset, {"name": "y"}, lambda: shelf_of((1, hole)) == shelf_of((1, hole)))
        self.check_error(TooDeep, {}, lambda: shelf_of((1, 1)) == shelf_of((1, nested(51))))

    def test_keys_are_looked_at_in_the_order_of_the_first(self):
        hole = HOLED.make(1)
        one = shelf_of((1, "a"), (2, hole))
        other = shelf_of((2, hole), (1, "b"))
        self.assertIs(one == other, False)
        self.check_error(Unset, {"name": "y"}, lambda: other == one)
        third = shelf_of((3, "a"), (2, hole))
        self.assertIs(third == one, False)
        self.assertIs(one == shelf_of((1, "a"), (3, hole)), False)
        self.assertIs(one == shelf_of((2, hole)), False)

    def test_records_as_entries(self):
        self.assertIs(shelf_of((1, PLAIN.make(1))) == shelf_of((1, PLAIN.make(1))), True)
        self.assertIs(shelf_of((1, LOOSE.make(1))) == shelf_of((1, LOOSE.make(1))), False)

    def test_shelves_have_no_order(self):
        with self.assertRaises(TypeError):
            Shelf() < Shelf()
        self.assertFalse(issubclass(TypeError, NotOrdered))
