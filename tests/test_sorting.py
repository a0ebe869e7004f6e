"""Sorting: [66] and the module sorting."""

import random
import time

from recordcraft.errors import NoField, NotOrdered, RecordcraftError, TooDeep, Unset
from recordcraft.kinds import Kind
from recordcraft.members import Field
from recordcraft.records import compare
from recordcraft.sorting import sorted_values
from tests.helpers import CraftTestCase, nested, often, too_deep_values, values_of_no_sort

PAIR = Kind("Pair", Field("a"), Field("b", compare=False), order=True)
POINT = Kind("Point", Field("x"), Field("y", default=0), order=True)
HOLED = Kind("Holed", Field("x"), Field("y", init=False), order=True)
LOOSE = Kind("Loose", Field("x"), equal=False)


def first_error(values):
    """The first error in ascending order of the pairs of positions, or None."""
    for first in range(len(values)):
        for second in range(first + 1, len(values)):
            try:
                compare(values[first], values[second])
            except RecordcraftError as error:
                return error
    return None


def sorted_slowly(values, down):
    """Each value is put behind all values that it does not come before."""
    result = []
    for value in values:
        spot = 0
        for at, other in enumerate(result):
            order = compare(other, value)
            if (order >= 0 if down else order <= 0):
                spot = at + 1
        result.insert(spot, value)
    return result


class SortedTest(CraftTestCase):
    def test_simple_values(self):
        for values, rising in (([3, 1, 2], [1, 2, 3]), (("b", "", "a"), ["", "a", "b"]), ((True, False), [False, True]),
                               ([(2,), (1, 5), (1,), ()], [(), (1,), (1, 5), (2,)]), ([], []), ((), []), ([5], [5])):
            self.assertEqual(sorted_values(values), rising)
            self.assertEqual(sorted_values(values, down=True), rising[::-1])
            self.assertIs(type(sorted_values(values)), list)

    def test_answer_is_a_new_list(self):
        values = [2, 1]
        result = sorted_values(values=values, by=None, down=False)
        self.assertEqual((values, result), ([2, 1], [1, 2]))
        single = [1]
        self.assertIsNot(sorted_values(single), single)

    def test_options_are_given_by_name(self):
        with self.assertRaises(TypeError):
            sorted_values([1], None)

    def test_stable(self):
        records = [PAIR.make(a, b) for b, a in enumerate((2, 1, 2, 0, 1, 0, 2))]
        self.assertEqual([one["b"] for one in sorted_values(records)], [3, 5, 1, 4, 0, 2, 6])
        self.assertEqual([one["b"] for one in sorted_values(records, down=True)], [0, 2, 6, 1, 4, 3, 5])
        self.assertEqual([one["b"] for one in sorted_values(records, by="a")], [3, 5, 1, 4, 0, 2, 6])
        self.assertEqual([one["b"] for one in sorted_values(records, by="a", down=True)], [0, 2, 6, 1, 4, 3, 5])

    def test_values_are_the_very_objects(self):
        values = [(2, [1]), (1, [1])]
        result = sorted_values(values)
        self.assertIs(result[0], values[1])
        self.assertIs(result[1], values[0])

    def test_by_a_field_of_records_of_different_kinds(self):
        values = [PAIR.make(3, 1), LOOSE.make(1), POINT.make(2)]
        self.check_error(NoField, {"name": "x"}, sorted_values, values, by="x")
        values = [LOOSE.make(2), POINT.make(1)]
        self.assertEqual(sorted_values(values, by="x"), values[::-1])

    def test_errors_of_by(self):
        records = [HOLED.make(1), PAIR.make(1, 2)]
        self.check_error(Unset, {"name": "y"}, sorted_values, records, by="y")
        self.check_error(NoField, {"name": "y"}, sorted_values, records[::-1], by="y")
        self.check_error(NoField, {"name": ""}, sorted_values, records[:1], by="")
        self.check_error(Unset, {"name": "y"}, sorted_values, records[:1], by="y")
        self.check_error(NoField, {"name": "q"}, sorted_values, [POINT.make("a"), POINT.make(1)], by="q")
        self.assertEqual(sorted_values([], by="q"), [])

    def test_errors_of_compare(self):
        self.check_error(NotOrdered, {}, sorted_values, [1, "a"])
        self.check_error(NotOrdered, {}, sorted_values, [1, True])
        self.check_error(NotOrdered, {}, sorted_values, [None, 1])
        self.check_error(NotOrdered, {}, sorted_values, [[1], [2]])
        self.check_error(NotOrdered, {}, sorted_values, [POINT.make(1), POINT.make("a")], by="x")
        self.check_error(TooDeep, {}, sorted_values, [1, nested(51)])
        self.check_error(Unset, {"name": "y"}, sorted_values, [HOLED.make(1), HOLED.make(1)])
        self.assertEqual(sorted_values([[1], [1]]), [[1], [1]])
        self.assertEqual(sorted_values([None, None, None]), [None] * 3)

    def test_first_pair_that_raises(self):
        hole = HOLED.make(1)
        self.check_error(NotOrdered, {}, sorted_values, [1, "a", nested(51)])
        self.check_error(TooDeep, {}, sorted_values, [1, nested(51), "a"])
        self.check_error(TooDeep, {}, sorted_values, [1, 2, 3, nested(51)])
        self.check_error(Unset, {"name": "y"}, sorted_values, [hole, hole, 1])
        self.check_error(NotOrdered, {}, sorted_values, [hole, 1, hole])
        self.check_error(NotOrdered, {}, sorted_values, [(3, 1), (1, [1]), (2, hole), (1, [2]), (2, hole)])
        self.check_error(Unset, {"name": "y"}, sorted_values, [(3, 1), (2, hole), (1, [1]), (1, [2]), (2, hole)])

    def test_pairs_that_sorting_would_not_compare(self):
        """In most orders, the two values that raise an error are far from each other at first."""
        chance = random.Random(66)
        for _ in range(200):
            values = [(at, 0) for at in range(20)] + [(7, [1]), (7, [2])]
            values.remove((7, 0))
            chance.shuffle(values)
            self.check_error(NotOrdered, {}, sorted_values, values)
            self.check_error(NotOrdered, {}, sorted_values, values, down=True)

    def test_a_value_without_another_one_is_not_judged(self):
        for value in [*too_deep_values(), *values_of_no_sort(), HOLED.make(1)]:
            self.assertIs(sorted_values([value])[0], value)
            self.assertIs(sorted_values((value,), down=True)[0], value)
        record = POINT.make(nested(51))
        self.assertIs(sorted_values([record], by="x")[0], record)

    def test_parts_of_records_that_are_not_compared(self):
        records = [PAIR.make(2, nested(51)), PAIR.make(1, often(40))]
        self.assertEqual([one["a"] for one in sorted_values(records, by="a")], [1, 2])
        self.check_error(TooDeep, {}, sorted_values, records)

    def test_long_lists_are_not_judged_as_a_whole(self):
        started = time.monotonic()
        values = [at * 7919 % 6007 for at in range(6007)]
        self.assertEqual(sorted_values(values), list(range(6007)))
        self.assertEqual(sorted_values(tuple(values), down=True), list(range(6006, -1, -1)))
        records = [POINT.make(value) for value in values]
        self.assertEqual([one["x"] for one in sorted_values(records, by="x")], list(range(6007)))
        self.assertLess(time.monotonic() - started, 30)

    def test_against_a_slow_way(self):
        chance = random.Random(67)
        pools = [
            [0, 1, 2, 3, -5], ["", "a", "b", "ab"], [(), (0,), (1,), (0, 1), (0, "a"), (1, None), (0, [1]), (0, [2])],
            [POINT.make(0), POINT.make(0, 1), POINT.make(1, (1,)), POINT.make(1, (2,)), POINT.make(1, "a")],
            [(1, HOLED.make(1)), (1, HOLED.make(2)), (2, 1), (3, 1), (3, LOOSE.make(1)), (4, ())],
            [((1, 2), 1), ((1,), 5), ((1, {"a": 1}), 1), ((1, {"a": 2}), 1), ((0, True), 1), ((0, False), 1)],
            [PAIR.make(1, 1), PAIR.make(1, 2), PAIR.make(2, HOLED.make(1)), PAIR.make(0, nested(45))],
            [0, 1, 2, "a", nested(51), None],
            [({"a": 1, "b": HOLED.make(1)}, 1), ({"b": HOLED.make(1), "a": 2}, 2), ({"a": 1}, 1), ({"a": 1}, 2)],
        ]
        raised = done = 0
        for pool in pools:
            for _ in range(300):
                values = [chance.choice(pool) for _ in range(chance.randint(0, 7))]
                error = first_error(values)
                for down in (True, False):
                    if error is not None:
                        raised += 1
                        self.check_error(error.__class__, vars(error), sorted_values, values, down=down)
                        continue
                    done += 1
                    result = sorted_values(values, down=down)
                    self.assertEqual(list(map(id, result)), list(map(id, sorted_slowly(values, down))))
        self.assertGreater(raised, 300)
        self.assertGreater(done, 300)
