"""Plain data and books: [70], [71] and the module plain."""

import itertools
import random

from recordcraft.errors import Frozen, InvalidBook, InvalidData, NoKind, TooDeep, Unset
from recordcraft.kinds import Kind
from recordcraft.members import Field, Hook, InitOnly
from recordcraft.plain import Book, plain
from recordcraft.records import Record, are_equal, shown
from tests.helpers import (CraftTestCase, EqualToAll, Stubborn, nested, odd_values, often, too_deep_values,
                           values_of_no_sort)

POINT = Kind("Point", Field("x"), Field("y", default=0), order=True, frozen=True)
PLAIN = Kind("Plain", Field("a"), Field("b", init=False))
BLANK = Kind("Blank")
BOOK = Book(POINT, PLAIN, BLANK)
WORDS = ("tuple", "list", "dict", "record")


def odd_parts():
    """Values that are no plain data anywhere, and that are not too deep."""
    return [(), (1,), ("list", 1), {}, {"a": 1}, [], [1], [None], [True], ["x"], ["List"], [["list"]], [("list",)],
            [EqualToAll()], [Stubborn()], POINT.make(1), BLANK.make(), *values_of_no_sort()]


class PlainTest(CraftTestCase):
    def test_simple_values(self):
        for value in (None, True, False, 0, 1, -5, 10 ** 999, "", "tuple", "a\n"):
            self.check_same(plain(value), value)

    def test_tuples_lists_and_dicts(self):
        for value, data in (((), ["tuple"]), ((1, True), ["tuple", 1, True]), ([], ["list"]), ([None], ["list", None]),
                            (["list"], ["list", "list"]), ({}, ["dict"]),
                            ({"b": 1, "a": (2,)}, ["dict", ["b", 1], ["a", ["tuple", 2]]]),
                            ([[], ()], ["list", ["list"], ["tuple"]])):
            self.check_same(plain(value), data)
            self.check_same(plain(value=value), data)

    def test_records(self):
        self.assertEqual(plain(POINT.make(1, (2,))), ["record", "Point", ["x", 1], ["y", ["tuple", 2]]])
        self.assertEqual(plain(BLANK.make()), ["record", "Blank"])
        self.assertEqual(plain([PLAIN.make(POINT.make(None))]),
                         ["list", ["record", "Plain", ["a", ["record", "Point", ["x", None], ["y", 0]]]]])

    def test_fields_stand_in_the_order_of_the_kind(self):
        kind = Kind("K", Field("a", init=False), Field("b", show=False, compare=False), Field("c", init=False))
        record = kind.make(2)
        self.assertEqual(plain(record), ["record", "K", ["b", 2]])
        record["c"] = 3
        record["a"] = 1
        self.assertEqual(plain(record), ["record", "K", ["a", 1], ["b", 2], ["c", 3]])

    def test_kinds_without_equal_and_show(self):
        kind = Kind("K", Field("a"), equal=False, show=False)
        self.assertEqual(plain(kind.make([])), ["record", "K", ["a", ["list"]]])

    def test_data_are_as_the_value_is_now(self):
        inside = [1]
        data = plain([inside, inside])
        inside.append(2)
        self.assertEqual(data, ["list", ["list", 1], ["list", 1]])
        data[1].append(3)
        self.assertEqual((data, inside), (["list", ["list", 1, 3], ["list", 1]], [1, 2]))
        self.assertIsNot(plain(inside), plain(inside))

    def test_lists_are_new_for_every_occurrence(self):
        part = {"a": (1,)}
        record = POINT.make(part, part)
        data = plain([part, part, record, record])
        lists = []

        def gather(one):
            if isinstance(one, list):
                lists.append(one)
                for item in one:
                    gather(item)
        gather(data)
        self.assertEqual(len({id(one) for one in lists}), len(lists))

    def test_too_deep(self):
        for value in too_deep_values():
            self.check_error(TooDeep, {}, plain, value)
        self.assertEqual(plain(nested(50, "x"))[:1], ["list"])
        self.assertEqual(len(plain([0] * 4999)), 5000)
        self.check_error(TooDeep, {}, plain, nested(51, []))


class BookTest(CraftTestCase):
    def test_methods_stand_in_the_class(self):
        for name in ("__init__", "kind_names", "__len__", "__contains__", "__getitem__", "__add__", "read"):
            self.assertIn(name, vars(Book))

    def test_kinds(self):
        self.check_same(BOOK.kind_names, ("Point", "Plain", "Blank"))
        self.check_same(len(BOOK), 3)
        for kind in (POINT, PLAIN, BLANK):
            self.assertIs(kind.name in BOOK, True)
            self.assertIs(BOOK[kind.name], kind)
        self.assertEqual(Book(BLANK, POINT).kind_names, ("Blank", "Point"))

    def test_empty_book(self):
        self.check_same(Book().kind_names, ())
        self.check_same(len(Book()), 0)
        self.assertIs("Point" in Book(), False)

    def test_names_that_no_kind_has(self):
        for name in [*odd_values(), "", "point", "Point ", "x", POINT, EqualToAll(), Stubborn(), too_deep_values()[-1]]:
            self.assertIs(name in BOOK, False)
            self.check_error(NoKind, {"name": name}, lambda: BOOK[name])

    def test_values_that_are_no_kinds(self):
        for value in [*odd_values(), "Point", POINT.make(1), *too_deep_values()]:
            if isinstance(value, Kind):
                continue
            self.check_error(InvalidBook, {"spot": 0}, Book, value)
            self.check_error(InvalidBook, {"spot": 1}, Book, POINT, value, POINT)
            self.check_error(InvalidBook, {"spot": 2}, Book, POINT, PLAIN, value)

    def test_equal_names(self):
        twin = Kind("Point", Field("z"))
        self.check_error(InvalidBook, {"spot": 1}, Book, POINT, POINT)
        self.check_error(InvalidBook, {"spot": 1}, Book, POINT, twin, None)
        self.check_error(InvalidBook, {"spot": 3}, Book, POINT, PLAIN, BLANK, twin, PLAIN)

    def test_sum(self):
        one, other = Book(POINT, PLAIN), Book(BLANK)
        whole = one + other
        self.assertIsInstance(whole, Book)
        self.assertEqual(whole.kind_names, ("Point", "Plain", "Blank"))
        self.assertIs(whole["Blank"], BLANK)
        self.assertEqual((other + one).kind_names, ("Blank", "Point", "Plain"))
        self.assertEqual((one.kind_names, other.kind_names), (("Point", "Plain"), ("Blank",)))
        self.assertEqual((Book() + one).kind_names, (one + Book()).kind_names)
        self.assertEqual(len(Book() + Book()), 0)

    def test_sum_with_equal_names(self):
        twin = Kind("Point", Field("z"))
        self.check_error(InvalidBook, {"spot": 3}, lambda: Book(POINT, PLAIN) + Book(BLANK, twin))
        self.check_error(InvalidBook, {"spot": 1}, lambda: Book(POINT) + Book(POINT))
        self.check_error(InvalidBook, {"spot": 2}, lambda: Book(PLAIN, POINT) + Book(POINT, PLAIN))

    def test_sum_with_other_values(self):
        for value in [*odd_values(), "x", POINT]:
            if not isinstance(value, Stubborn):
                with self.assertRaises(TypeError):
                    BOOK + value
                with self.assertRaises(TypeError):
                    value + BOOK

    def test_is_not_iterated_over(self):
        with self.assertRaises(TypeError):
            list(BOOK)


class ReadTest(CraftTestCase):
    def check_invalid(self, path, data, book=BOOK):
        self.check_error(InvalidData, {"path": path}, book.read, data)

    def test_values(self):
        for value in (None, True, False, 0, 1, -7, 10 ** 999, "", "tuple", (), (1, "a"), [], [None, [True]], {},
                      {"b": 1, "a": [()]}, POINT.make(1), PLAIN.make([POINT.make({"x": BLANK.make()})])):
            if shown(value).startswith("Plain"):
                value["b"] = 1
            told = BOOK.read(plain(value))
            self.assertIs(type(told), type(value))
            self.assertIs(are_equal(told, value), True)
            self.assertEqual(shown(told), shown(value))
        self.check_same(BOOK.read(data=["tuple", 1, ["list", True]]), (1, [True]))

    def test_lists_and_dicts_are_new(self):
        part = ["list", 1]
        data = ["list", part, part, ["dict", ["a", part]]]
        told = BOOK.read(data)
        self.assertEqual(told, [[1], [1], {"a": [1]}])
        told[0].append(2)
        self.assertEqual((told, data), ([[1, 2], [1], {"a": [1]}], ["list", part, part, ["dict", ["a", ["list", 1]]]]))
        self.assertIsNot(told[1], told[2]["a"])

    def test_dicts_keep_their_order(self):
        self.assertEqual(list(BOOK.read(["dict", ["b", 1], ["a", 2], ["", 3], ["dict", 4]])), ["b", "a", "", "dict"])

    def test_records(self):
        record = BOOK.read(["record", "Point", ["y", ["list"]], ["x", 1]])
        self.assertIsInstance(record, Record)
        self.assertIs(record.kind, POINT)
        self.assertEqual(shown(record), "Point(x=1, y=[])")
        self.assertEqual(list(record.entries()), [("x", 1), ("y", [])])

    def test_fields_that_do_not_occur_stay_unset(self):
        for data, text in ((["record", "Point"], "Point(x=unset, y=unset)"),
                           (["record", "Point", ["y", 5]], "Point(x=unset, y=5)"),
                           (["record", "Plain", ["b", None]], "Plain(a=unset, b=None)")):
            self.assertEqual(shown(BOOK.read(data)), text)
        self.check_error(Unset, {"name": "x"}, lambda: BOOK.read(["record", "Point"])["x"])

    def test_records_of_frozen_kinds_are_frozen_at_once(self):
        record = BOOK.read(["record", "Point", ["y", 5]])
        for name in ("x", "y"):
            self.check_error(Frozen, {"name": name}, record.put, name, 1)
        self.assertEqual(shown(record), "Point(x=unset, y=5)")
        loose = BOOK.read(["record", "Plain"])
        loose["b"] = 1
        self.assertEqual(shown(loose), "Plain(a=unset, b=1)")

    def test_factories_and_hooks_are_not_called(self):
        calls = []
        kind = Kind("K", Field("x", factory=lambda: calls.append(1)), Field("y", init=False, factory=list),
                    InitOnly("i", only_named=True), Hook(lambda record, i: calls.append(2)))
        record = Book(kind).read(["record", "K", ["y", 1]])
        self.assertEqual((calls, shown(record)), ([], "K(x=unset, y=1)"))
        self.check_invalid((2, 0), ["record", "K", ["i", 1]], Book(kind))

    def test_kinds_of_the_book_are_taken_by_their_names(self):
        other = Kind("Point", Field("z"))
        self.assertIs(Book(other).read(["record", "Point", ["z", 1]]).kind, other)
        self.check_invalid((2, 0), ["record", "Point", ["x", 1]], Book(other))
        self.check_invalid((1,), plain(POINT.make(1)), Book())

    def test_the_whole_is_invalid(self):
        for data in odd_parts():
            self.check_invalid((), data)

    def test_lists_that_begin_with_no_word(self):
        for first in (None, True, 1, "", "tuples", "Record", [], ["list"], (), {}, POINT, object(), EqualToAll()):
            for rest in ([], [1], [[]]):
                self.check_invalid((), [first, *rest])
                self.check_invalid((1,), ["list", [first, *rest]])

    def test_items_of_tuples_and_lists(self):
        for word, part in itertools.product(("tuple", "list"), odd_parts()):
            self.check_invalid((1,), [word, part])
            self.check_invalid((2,), [word, 1, part, part])
            self.check_invalid((3,), [word, "x", ["list", ["tuple"]], part])
            self.check_invalid((1, 2), [word, [word, 1, part], part])

    def test_entries_that_are_no_lists_of_two_items(self):
        entries = [None, True, 1, "ab", (), ("a", 1), {}, {"a": 1}, [], ["a"], ["a", 1, 2], [[]], *values_of_no_sort()]
        for entry in entries:
            self.check_invalid((1,), ["dict", entry])
            self.check_invalid((3,), ["dict", ["a", 1], ["b", 1], entry, entry])
            self.check_invalid((2,), ["record", "Point", entry])
            self.check_invalid((3,), ["record", "Point", ["x", 1], entry])

    def test_keys(self):
        for key in (None, True, 1, [], ["a"], ("a",), {}, *values_of_no_sort()):
            self.check_invalid((1, 0), ["dict", [key, 1]])
            self.check_invalid((2, 0), ["dict", ["a", 1], [key, []]])
            self.check_invalid((2, 0), ["record", "Point", [key, 1]])
            self.check_invalid((3, 0), ["record", "Point", ["x", 1], [key, []]])
        for key in ("", "z", "a", "X", "kind"):
            self.check_invalid((2, 0), ["record", "Point", [key, []]])
            self.check_invalid((2, 0), ["record", "Blank", [key, 1]])

    def test_repeated_keys(self):
        self.check_invalid((2, 0), ["dict", ["a", 1], ["a", []]])
        self.check_invalid((3, 0), ["dict", ["a", 1], ["b", 1], ["a", 1], ["b", 1]])
        self.check_invalid((3, 0), ["record", "Point", ["x", 1], ["x", 1]])
        self.check_invalid((4, 0), ["record", "Point", ["y", 1], ["x", 1], ["y", 1]])

    def test_values_of_entries(self):
        for part in odd_parts():
            self.check_invalid((1, 1), ["dict", ["a", part]])
            self.check_invalid((2, 1), ["dict", ["a", 1], ["b", part], ["b", 1]])
            self.check_invalid((2, 1), ["record", "Point", ["x", part]])
            self.check_invalid((3, 1), ["record", "Point", ["x", 1], ["y", part], 5])
            self.check_invalid((2, 1, 1, 1), ["record", "Plain", ["a", ["dict", ["k", part]]]])

    def test_kinds_of_records(self):
        for name in [*odd_parts(), None, True, 1, "", "point", ["Point"], ["list", "Point"]]:
            self.check_invalid((1,), ["record", name])
            self.check_invalid((1,), ["record", name, ["x", []]])
            self.check_invalid((2, 1), ["list", 1, ["record", name]])

    def test_missing_items(self):
        self.check_invalid((1,), ["record"])
        self.check_invalid((1, 1), ["list", ["record"]])
        self.check_invalid((2, 1, 1), ["record", "Plain", ["a", ["record"]]])
        self.check_same(BOOK.read(["tuple"]), ())
        self.check_same(BOOK.read(["list"]), [])
        self.check_same(BOOK.read(["dict"]), {})

    def test_the_first_invalid_part_is_named(self):
        self.check_invalid((1, 1), ["list", ["tuple", []], []])
        self.check_invalid((1, 1, 1), ["dict", ["a", ["list", []]], ["a", 1], 5])
        self.check_invalid((2, 0), ["dict", ["a", 1], ["a", []], []])
        self.check_invalid((1,), ["record", "No", 5])
        self.check_invalid((2,), ["record", "Point", ["x", [], 1], ["x"]])
        self.check_invalid((2, 0), ["record", "Point", ["z", []], ["x", []]])

    def test_too_deep_comes_first(self):
        for data in too_deep_values():
            self.check_error(TooDeep, {}, BOOK.read, data)
            self.check_error(TooDeep, {}, BOOK.read, ["record", [], data])
        self.check_error(TooDeep, {}, BOOK.read, [[], nested(50)])
        self.check_error(TooDeep, {}, BOOK.read, ["list", POINT.make(nested(49))])

    def test_levels_of_data(self):
        data = ["list"]
        for _ in range(48):
            data = ["tuple", data]
        self.assertEqual(shown(BOOK.read(["list", data])).count("("), 48)
        self.check_error(TooDeep, {}, BOOK.read, ["list", ["list", data]])
        self.check_invalid((1,) * 49, ["list"] + [self.deep_data(47, [])])

    def deep_data(self, levels, inside):
        for _ in range(levels):
            inside = ["list", inside]
        return ["list", inside]

    def test_many_values(self):
        self.assertEqual(BOOK.read(["list", *[0] * 4998]), [0] * 4998)
        self.check_error(TooDeep, {}, BOOK.read, ["list", *[0] * 4999])
        self.check_invalid((4998,), ["list", *[0] * 4997, ()])
        self.check_error(TooDeep, {}, BOOK.read, ["list", *[0] * 4997, ((),)])

    def test_data_are_not_modified(self):
        data = ["list", ["record", "Plain", ["a", ["dict", ["k", ["tuple", 1]]]]]]
        before = shown(data)
        BOOK.read(data)
        self.assertEqual(shown(data), before)


class ReadFactTest(CraftTestCase):
    """[71]: reading the plain data of a value gives an equal value."""

    def some_value(self, chance, levels):
        many = chance.randint(0, 3)
        sort = chance.randint(0, 9 if levels else 4)
        if sort <= 4:
            return chance.choice((None, True, False, 0, 1, 5, "", "list", "record", "a"))
        parts = [self.some_value(chance, levels - 1) for _ in range(many)]
        if sort == 5:
            return tuple(parts)
        if sort == 6:
            return parts
        if sort == 7:
            return dict(zip(("list", "b", "a"), parts))
        if sort == 8:
            return POINT.build(tuple(parts[:2]) or (1,), {})
        record = PLAIN.make(parts)
        record["b"] = chance.choice((1, (2,)))
        return record

    def test_reading_plain_data(self):
        chance = random.Random(71)
        for _ in range(1500):
            value = self.some_value(chance, 4)
            told = BOOK.read(plain(value))
            self.assertIs(are_equal(told, value), True)
            self.assertEqual(plain(told), plain(value))

    def test_a_part_that_occurs_often(self):
        value = often(6)
        self.assertIs(are_equal(BOOK.read(plain(value)), value), True)
