"""Values: [10] to [14] and [45]."""

import itertools
import time

from recordcraft.errors import NotKeyable, NotOrdered, TooDeep, Unset
from recordcraft.kinds import Kind
from recordcraft.members import Field
from recordcraft.records import are_equal, compare, is_keyable, is_same_key, shown
from tests.helpers import CraftTestCase, nested, nested_tuple, often, too_deep_values, values_of_no_sort

POINT = Kind("Point", Field("x"), Field("y", default=0), order=True, frozen=True)
TWIN = Kind("Point", Field("x"), Field("y", default=0), order=True, frozen=True)
LOOSE = Kind("Loose", Field("x"), equal=False)
PLAIN = Kind("Plain", Field("x"), Field("y", init=False))
HOLED = Kind("Holed", Field("x"), Field("y", init=False), order=True, frozen=True)
BLANK = Kind("Blank")


def one_of_each():
    """Values no two of which are equal, with the sort of each."""
    return [("none", None), ("truth", False), ("truth", True), ("integer", 0), ("integer", 1), ("integer", -5),
            ("integer", 10 ** 999), ("text", ""), ("text", "0"), ("text", "1"), ("text", "None"),
            ("text", "a\nb"), ("tuple", ()), ("tuple", (0,)), ("tuple", (False,)), ("tuple", (0, 0)),
            ("tuple", ((),)), ("list", []), ("list", [0]), ("list", [False]), ("list", [()]), ("list", [0, 0]),
            ("dict", {}), ("dict", {"a": 0}), ("dict", {"a": False}), ("dict", {"b": 0}),
            ("dict", {"a": 0, "b": 0}), ("record", POINT.make(0)), ("record", POINT.make(False)),
            ("record", POINT.make((0,))), ("record", TWIN.make(0)), ("record", LOOSE.make(0)),
            ("record", LOOSE.make(0)), ("record", BLANK.make())]


def copy_of(value):
    """A value that is equal, but another object, except for records of a kind without equal."""
    if isinstance(value, (list, tuple)):
        return type(value)([copy_of(item) for item in value])
    if isinstance(value, dict):
        return {key: copy_of(value[key]) for key in reversed(value)}
    if hasattr(value, "kind") and value.kind.equal:
        return value.kind.build((), dict(value.entries()))
    return value


class EqualTest(CraftTestCase):
    def test_values_of_all_sorts(self):
        values = one_of_each()
        for (at, (_, one)), (spot, (_, other)) in itertools.product(enumerate(values), enumerate(values)):
            with self.subTest(f"{shown(one)} {shown(other)}"):
                self.assertIs(are_equal(one, copy_of(other)), at == spot)

    def test_inside_of_parts(self):
        for (at, (_, one)), (spot, (_, other)) in itertools.product(enumerate(one_of_each()), repeat=2):
            for wrap in (lambda v: (1, v), lambda v: ["a", [v]], lambda v: {"k": (v,)}, POINT.make):
                self.assertIs(are_equal(wrap(one), wrap(copy_of(other))), at == spot)

    def test_true_is_not_one(self):
        self.assertIs(are_equal(True, 1), False)
        self.assertIs(are_equal(0, False), False)
        self.assertIs(are_equal([True], [1]), False)
        self.assertIs(are_equal({"a": 0}, {"a": False}), False)
        self.assertIs(POINT.make(1) == POINT.make(True), False)

    def test_tuple_is_not_list(self):
        self.assertIs(are_equal((1, 2), [1, 2]), False)
        self.assertIs(are_equal(((),), ([],)), False)

    def test_dicts_in_any_order(self):
        self.assertIs(are_equal({"a": 1, "b": [2]}, {"b": [2], "a": 1}), True)
        self.assertIs(are_equal({"a": 1, "b": 2}, {"a": 2, "b": 1}), False)
        self.assertIs(are_equal({"a": 1}, {"a": 1, "b": 2}), False)

    def test_lengths_and_keys_are_looked_at_first(self):
        hole = HOLED.make(1)
        self.assertIs(are_equal([hole], [hole, 1]), False)
        self.assertIs(are_equal((hole,), (hole, 1)), False)
        self.assertIs(are_equal({"a": hole, "b": 1}, {"a": hole, "c": 1}), False)
        self.assertIs(are_equal({"a": hole}, {"a": hole, "c": 1}), False)

    def test_parts_are_looked_at_up_to_the_first_ones_that_differ(self):
        hole = HOLED.make(1)
        self.assertIs(are_equal([1, hole], [2, hole]), False)
        self.check_error(Unset, {"name": "y"}, are_equal, [hole, 1], [hole, 2])
        self.assertIs(are_equal({"a": 1, "b": hole}, {"b": hole, "a": 2}), False)
        self.check_error(Unset, {"name": "y"}, are_equal, {"b": hole, "a": 2}, {"a": 1, "b": hole})
        self.assertIs(POINT.make(1, hole) == POINT.make(2, hole), False)
        self.check_error(Unset, {"name": "y"}, lambda: POINT.make(hole, 1) == POINT.make(hole, 2))

    def test_arguments_by_name(self):
        self.assertIs(are_equal(other=1, one=1), True)
        self.assertEqual(compare(other=1, one=2), 1)
        self.assertIs(is_keyable(value=1), True)
        self.assertIs(is_same_key(other=1, one=1), True)
        self.assertEqual(shown(value=1), "1")


class CompareTest(CraftTestCase):
    def test_simple_sorts(self):
        rising = [[False, True], [-10 ** 999, -1, 0, 1, 2, 10 ** 999], ["", " ", "A", "Z", "a", "aa", "b", "~"]]
        for row in rising:
            for (at, one), (spot, other) in itertools.product(enumerate(row), repeat=2):
                self.check_same(compare(one, other), (at > spot) - (at < spot))

    def test_tuples(self):
        row = [(), (0,), (0, ()), (0, (5,)), (1,), (1, "a"), (1, "b"), (1, "b", None), (2,)]
        for (at, one), (spot, other) in itertools.product(enumerate(row), repeat=2):
            self.check_same(compare(one, other), (at > spot) - (at < spot))

    def test_records(self):
        row = [POINT.make(0), POINT.make(0, 1), POINT.make(1, 0), POINT.make(1, 1)]
        for (at, one), (spot, other) in itertools.product(enumerate(row), repeat=2):
            self.check_same(compare(one, other), (at > spot) - (at < spot))

    def test_equal_values_of_any_sort(self):
        for _, value in one_of_each():
            self.check_same(compare(value, copy_of(value)), 0)

    def test_equality_is_looked_at_first_for_the_whole_values(self):
        self.assertEqual(compare([1, {"a": None}], [1, {"a": None}]), 0)
        self.assertEqual(compare(([1], 2), ([1], 3)), -1)
        hole = PLAIN.make(1)
        self.check_error(Unset, {"name": "y"}, compare, hole, hole)
        self.check_error(Unset, {"name": "y"}, compare, [hole], [hole])
        self.check_error(NotOrdered, {}, compare, [hole], [hole, 1])
        self.check_error(NotOrdered, {}, compare, [1, hole], [2, hole])

    def test_what_cannot_be_compared(self):
        values = one_of_each()
        for (sort, one), (other_sort, other) in itertools.product(values, repeat=2):
            if sort != other_sort:
                self.check_error(NotOrdered, {}, compare, one, other)
        for one, other in (([1], [2]), ([], [1]), ({"a": 1}, {"a": 2}), ({}, {"a": 1}), (POINT.make(1), TWIN.make(1)),
                           (LOOSE.make(1), LOOSE.make(1)), (POINT.make(1, [1]), POINT.make(1, [2])),
                           ((1, None), (1, 2)), ((1, True), (1, 1)), (POINT.make(1), POINT.make("a"))):
            self.check_error(NotOrdered, {}, compare, one, other)
            self.check_error(NotOrdered, {}, compare, other, one)

    def test_first_difference_of_tuples_decides(self):
        self.assertEqual(compare((1, [1]), (2, [2])), -1)
        self.assertEqual(compare((1, 2), (1, 2, [])), -1)
        self.check_error(NotOrdered, {}, compare, (1, [1], 5), (1, [2], 6))
        hole = HOLED.make(1)
        self.check_error(Unset, {"name": "y"}, compare, (hole,), (hole, 1))
        self.assertEqual(compare((1, hole), (2, hole)), -1)

    def test_first_difference_of_records_decides(self):
        self.assertEqual(compare(POINT.make(1, [1]), POINT.make(2, [2])), -1)
        self.check_error(NotOrdered, {}, compare, POINT.make(1, [1]), POINT.make(1, [2]))
        self.assertEqual(compare(POINT.make(1, [1]), POINT.make(1, [1])), 0)


class KeyableTest(CraftTestCase):
    def test_keyable_values(self):
        for value in (None, True, False, 0, -7, 10 ** 999, "", "a", (), (1, (None, ("a",))), nested_tuple(50),
                      POINT.make(1), POINT.make((1,), POINT.make(2)), LOOSE.make([1]), (LOOSE.make({}), 1),
                      Kind("Empty", frozen=True).make()):
            self.assertIs(is_keyable(value), True)

    def test_other_values(self):
        for value in ([], {}, ([],), (1, (2, {})), POINT.make([1]), POINT.make(1, {}), PLAIN.make(1), BLANK.make(),
                      (1, PLAIN.make(1)), [1], Kind("Loose", frozen=False).make()):
            self.assertIs(is_keyable(value), False)

    def test_values_that_are_valid_nowhere(self):
        for value in values_of_no_sort():
            self.assertIs(is_keyable(value), False)
            self.assertIs(is_keyable((1, value)), False)
            self.check_error(NotKeyable, {}, is_same_key, value, 1)

    def test_all_items_are_looked_at(self):
        hole = HOLED.make(1)
        self.check_error(Unset, {"name": "y"}, is_keyable, hole)
        self.check_error(Unset, {"name": "y"}, is_keyable, ([], hole))
        self.check_error(Unset, {"name": "y"}, is_keyable, ({}, ([], (hole, []))))
        self.check_error(Unset, {"name": "y"}, is_keyable, POINT.make([], hole))

    def test_unset_of_the_record_itself_comes_first(self):
        kind = Kind("Deep", Field("a"), Field("b", init=False), Field("c", init=False), frozen=True)
        self.check_error(Unset, {"name": "b"}, is_keyable, kind.make(HOLED.make(1)))
        self.check_error(Unset, {"name": "b"}, is_keyable, kind.make([]))

    def test_no_unset_without_frozen(self):
        self.assertIs(is_keyable(PLAIN.make(1)), False)
        loose = Kind("Free", Field("x", init=False), equal=False, frozen=True)
        self.assertIs(is_keyable(loose.make()), True)

    def test_only_fields_that_count_in_keys(self):
        kind = Kind("Some", Field("a"), Field("b", compare=False), Field("c", key=False), frozen=True)
        self.assertIs(is_keyable(kind.make(1, [], {})), True)
        self.assertIs(is_keyable(kind.make([], 1, 1)), False)
        self.assertIs(is_same_key(kind.make(1, [], {}), kind.make(1, {}, [])), True)
        hole = Kind("Hole", Field("a"), Field("b", compare=False, init=False), frozen=True)
        self.assertIs(is_keyable(hole.make(1)), True)


class SameKeyTest(CraftTestCase):
    def test_values_of_all_sorts(self):
        values = [value for _, value in one_of_each() if is_keyable(value)]
        for (at, one), (spot, other) in itertools.product(enumerate(values), repeat=2):
            self.assertIs(is_same_key(one, copy_of(other)), at == spot)
            self.assertIs(is_same_key((1, one), (1, copy_of(other))), at == spot)

    def test_none(self):
        self.assertIs(is_same_key(None, None), True)
        self.assertIs(is_same_key((None,), (None,)), True)

    def test_tuples(self):
        self.assertIs(is_same_key((1, (2,)), (1, (2,))), True)
        self.assertIs(is_same_key((1,), (1, 2)), False)
        self.assertIs(is_same_key((1,), (True,)), False)

    def test_records(self):
        self.assertIs(is_same_key(POINT.make(1), POINT.make(1, 0)), True)
        self.assertIs(is_same_key(POINT.make(1), POINT.make(1, False)), False)
        self.assertIs(is_same_key(POINT.make(1), TWIN.make(1)), False)
        loose = LOOSE.make(1)
        self.assertIs(is_same_key(loose, loose), True)
        self.assertIs(is_same_key((loose,), (loose,)), True)
        self.assertIs(is_same_key(loose, LOOSE.make(1)), False)

    def test_the_first_one_is_judged_first(self):
        hole = HOLED.make(1)
        self.check_error(NotKeyable, {}, is_same_key, [], hole)
        self.check_error(Unset, {"name": "y"}, is_same_key, hole, [])
        self.check_error(NotKeyable, {}, is_same_key, 1, [])
        self.check_error(NotKeyable, {}, is_same_key, {}, 1)
        self.check_error(Unset, {"name": "y"}, is_same_key, 1, hole)
        self.check_error(TooDeep, {}, is_same_key, [], nested(51))


class ShownTest(CraftTestCase):
    def test_simple_values(self):
        for value, text in ((None, "None"), (True, "True"), (False, "False"), (0, "0"), (-12, "-12"),
                            (10 ** 999, "1" + "0" * 999), ("", '""'), ("a b", '"a b"'), ("'", '"\'"')):
            self.check_same(shown(value), text)

    def test_texts(self):
        self.assertEqual(shown('a"b'), '"a\\"b"')
        self.assertEqual(shown("a\\b"), '"a\\\\b"')
        self.assertEqual(shown("a\nb"), '"a\\nb"')
        self.assertEqual(shown("\\n"), '"\\\\n"')
        self.assertEqual(shown('\\"\n'), '"\\\\\\"\\n"')

    def test_tuples_lists_and_dicts(self):
        for value, text in (((), "()"), ((1,), "(1,)"), ((1, "a"), '(1, "a")'), ([], "[]"), ([1], "[1]"),
                            ([None, (True,)], "[None, (True,)]"), ({}, "{}"), ({"a": 1}, '{"a": 1}'),
                            ({"b": [], 'a"': ("\n",)}, '{"b": [], "a\\"": ("\\n",)}')):
            self.check_same(shown(value), text)

    def test_records(self):
        self.assertEqual(shown(POINT.make(1, ("a",))), 'Point(x=1, y=("a",))')
        self.assertEqual(shown(BLANK.make()), "Blank()")
        self.assertEqual(shown(PLAIN.make(POINT.make([]))), "Plain(x=Point(x=[], y=0), y=unset)")
        kind = Kind("Some", Field("a", show=False), Field("b"), Field("c", show=False, init=False))
        self.assertEqual(shown(kind.make(1, 2)), "Some(b=2)")

    def test_kind_without_show(self):
        self.assertEqual(shown([Kind("Veiled", Field("x"), show=False).make(1)]), "[Veiled(...)]")
        self.assertEqual(shown(Kind("Veiled", show=False).make()), "Veiled(...)")


class TooDeepTest(CraftTestCase):
    def calls(self, value):
        return [(are_equal, value, 1), (are_equal, 1, value), (compare, value, 1), (compare, 1, value),
                (is_keyable, value), (is_same_key, value, 1), (is_same_key, 1, value), (shown, value)]

    def test_every_function_raises_it_first(self):
        for value in too_deep_values():
            for call in self.calls(value):
                started = time.monotonic()
                self.check_error(TooDeep, {}, *call)
                self.assertLess(time.monotonic() - started, 2)

    def test_it_comes_before_other_errors(self):
        deep = nested(51)
        hole = HOLED.make(1)
        self.check_error(TooDeep, {}, are_equal, [hole, hole], [hole, deep])
        self.check_error(TooDeep, {}, compare, [], deep)
        self.check_error(TooDeep, {}, is_same_key, [], deep)
        self.check_error(TooDeep, {}, is_keyable, (hole, deep))

    def test_fifty_levels(self):
        for inside in (0, [], (), {}, ""):
            self.assertIs(are_equal(nested(50, inside), nested(50, inside)), True)
            self.check_error(TooDeep, {}, shown, nested(51, inside))
        self.assertEqual(compare(nested_tuple(50, 1), nested_tuple(50, 2)), -1)
        self.assertEqual(shown(nested_tuple(50)), "(" * 50 + "0" + ",)" * 50)
        self.assertIs(is_same_key(nested_tuple(50), nested_tuple(50)), True)

    def test_records_are_levels(self):
        value = 0
        for _ in range(50):
            value = POINT.make(value)
        self.assertIs(value == value, True)
        self.assertIs(is_keyable(value), True)
        self.assertEqual(compare(value, value), 0)
        self.assertEqual(shown(value).count("Point("), 50)
        deeper = POINT.make(value)
        self.check_error(TooDeep, {}, shown, deeper)
        self.check_error(TooDeep, {}, lambda: deeper == deeper)

    def test_five_thousand_values(self):
        for value in ([0] * 4999, (0,) * 4999, {str(at): at for at in range(4999)}, [[0] * 4997, 0],
                      [[0, 0]] * 1666 + [0], PLAIN.make([0] * 4998)):
            self.assertTrue(shown(value))
        for value in ([0] * 5000, (0,) * 5000, {str(at): at for at in range(5000)}, [[0] * 4997, 0, 0],
                      [[0, 0]] * 1666 + [0, 0], PLAIN.make([0] * 4999)):
            self.check_error(TooDeep, {}, shown, value)

    def test_each_value_is_counted_by_itself(self):
        self.assertIs(are_equal([0] * 4999, [0] * 4999), True)

    def test_fields_that_do_not_count_are_parts_too(self):
        kind = Kind("Veiled", Field("a", compare=False, show=False), show=False)
        self.check_error(TooDeep, {}, shown, kind.make(nested(50)))
        self.check_error(TooDeep, {}, are_equal, kind.make(nested(50)), 1)
        loose = Kind("Loose", Field("a"), equal=False).make(nested(50))
        self.check_error(TooDeep, {}, is_keyable, loose)

    def test_a_part_that_occurs_often(self):
        self.assertIs(are_equal(often(10), often(10)), True)
        self.check_error(TooDeep, {}, are_equal, often(11), 1)
        part = [0] * 1000
        self.assertEqual(shown([part] * 4).count("0"), 4000)
        self.check_error(TooDeep, {}, shown, [part] * 5)
        self.check_error(TooDeep, {}, shown, [[part] * 1000000] * 1000000)

    def test_deep_values_with_many_parts_are_compared_quickly(self):
        def build(last):
            value = last
            for _ in range(49):
                value = ((0,) * 90, value)
            return value
        started = time.monotonic()
        self.assertEqual(compare(build(1), build(2)), -1)
        self.assertEqual(compare(build(2), build(2)), 0)
        self.assertLess(time.monotonic() - started, 5)


class DepthTest(CraftTestCase):
    """When a value is too deep, where it is judged in a quick way."""

    def test_long_rows(self):
        self.assertIs(are_equal([0] * 4999, 0), False)
        self.assertIs(are_equal([[0] for _ in range(2499)], 0), False)
        self.check_error(TooDeep, {}, are_equal, [[0] for _ in range(2500)], 0)
        self.assertIs(are_equal([0] * 4999, [0] * 4998 + [1]), False)
        self.assertIs(are_equal([0] * 4999, [0] * 4998 + [False]), False)
        for simple in (None, True, False, 7, "a", 10 ** 999):
            self.assertIs(are_equal([simple] * 4999, [simple] * 4999), True)
            self.check_error(TooDeep, {}, are_equal, [simple] * 5000, 0)
            self.assertIs(are_equal([[simple], *[simple] * 4997], 0), False)
            self.check_error(TooDeep, {}, are_equal, [[simple], *[simple] * 4998], 0)

    def test_parts_that_occur_twice(self):
        for join in (lambda part: [part, part], lambda part: (part, part), lambda part: {"a": part, "b": part},
                     lambda part: POINT.make(part, part), lambda part: [1, part, part]):
            value = []
            for _ in range(60):
                value = join(value)
            self.check_error(TooDeep, {}, are_equal, value, 0)

    def test_a_value_that_contains_itself_at_the_end(self):
        value = [1]
        value.append(value)
        self.check_error(TooDeep, {}, are_equal, value, 0)

    def test_small_values(self):
        kind = Kind("K", Field("x"), Field("y"), Field("z"), order=True)
        one, other = kind.make(1, 2, 3), kind.make(1, 2, 4)
        self.assertIs(one < other, True)
        self.assertIs(one == other, False)
        self.check_same(compare((1, 2), (1, 3)), -1)
        self.check_same(compare(1, 2), -1)

    def test_levels_below_a_wide_one(self):
        """The first parts, or others, of a level with many values go on for so many levels."""
        for outside in range(49):
            for many in (1, 49, 50, 51, 60):
                for place in (0, many):
                    for more in (0, 1):
                        row = [[]] * many
                        row.insert(place, nested_tuple(49 - outside + more))
                        value = nested(outside, row)
                        if more:
                            self.check_error(TooDeep, {}, are_equal, value, 0)
                        else:
                            self.assertIs(are_equal(value, 0), False)

    def test_counts_on_every_level(self):
        for levels in range(1, 49):
            for sort in (list, tuple):
                # The rows on the way have two values each, besides the one that holds all others.
                value = sort([0] * (5000 - 2 * levels - 1))
                for _ in range(levels):
                    value = [1, value]
                self.assertIs(is_keyable(value), False)
                self.check_error(TooDeep, {}, is_keyable, [value])

    def test_values_of_classes_below(self):
        class Number(int):
            pass

        class Row(list):
            pass

        class Table(dict):
            pass

        class Word(str):
            pass

        class Pair(tuple):
            pass
        self.assertIs(are_equal(Number(5), 5), True)
        self.assertIs(are_equal([Number(5)], Row([5])), True)
        self.assertIs(are_equal(Table(a=Row()), {"a": []}), True)
        for value, other in (([1], Row([1, 2])), (Row([1, 2]), [1, 3]), (Table(a=1), {"a": 2}), (Number(5), True)):
            self.assertIs(are_equal(value, other), False)
        self.check_same(compare((Number(5),), (6,)), -1)
        self.check_same(compare(7, Number(6)), 1)
        self.check_same(compare(Number(7), 7), 0)
        self.check_same(compare(Pair((1, 2)), (1, 3)), -1)
        self.check_same(compare(Word("b"), "a"), 1)
        values = [Row([1]), Table(a=1), Word('"'), Pair((2,)), Number(5)]
        self.assertEqual(shown(values), '[[1], {"a": 1}, "\\"", (2,), 5]')
        self.assertIs(is_keyable(Pair((Number(1), Word("a")))), True)
        self.assertIs(is_keyable(Pair((Row(),))), False)
        self.assertIs(is_same_key(Pair((Number(1), Word("a"))), (1, "a")), True)
        self.assertIs(is_same_key(Pair((1,)), (True,)), False)
        self.check_error(TooDeep, {}, shown, Row([0] * 5000))
        self.check_error(TooDeep, {}, shown, [Table(a=Row([0] * 4998))])
