"""The module tables."""

from recordcraft.errors import NoField, TooDeep
from recordcraft.kinds import Kind
from recordcraft.members import Field
from recordcraft.tables import record_table
from tests.helpers import CraftTestCase, nested, odd_values, too_deep_values

POINT = Kind("Point", Field("x"), Field("y", default=0), order=True, frozen=True)
HOLED = Kind("Holed", Field("x"), Field("y", init=False), Field("a_long_name_x", init=False), show=False)


class TableTest(CraftTestCase):
    def check_table(self, lines, records, *names):
        self.check_same(record_table(records, *names), "\n".join(lines))

    def test_rows(self):
        self.check_table(["x          | y         ", "1          | 2         ", "22         | 0         "],
                         [POINT.make(1, 2), POINT.make(22)], "x", "y")
        self.check_table(["y         ", "0         "], (POINT.make(1),), "y")
        self.check_table(["y          | x          | y         ", "0          | 1          | 0         "],
                         [POINT.make(1)], "y", "x", "y")

    def test_shown_values(self):
        for value, cell in ((None, "None      "), (True, "True      "), ("a", '"a"       '), ((1,), "(1,)      "),
                            ([], "[]        "), ({}, "{}        "), ("\n", '"\\n"      '), ("", '""        '),
                            (HOLED.make(1), "Holed(...)"), (POINT.make(1), "Point(x=1,")):
            self.check_table(["x         ", cell], [POINT.make(value)], "x")

    def test_cells_are_cut_after_ten_characters(self):
        for value, cell in (("abcdefgh", '"abcdefgh"'), ("abcdefghi", '"abcdefghi'), ("abcdefghijkl", '"abcdefghi'),
                            (123456789, "123456789 "), (1234567890, "1234567890"), (12345678901, "1234567890"),
                            ([0] * 4999, "[0, 0, 0, ")):
            self.check_table(["x         ", cell], [POINT.make(value)], "x")

    def test_long_names(self):
        record = HOLED.make(1)
        record["a_long_name_x"] = 5
        self.check_table(["a_long_nam | x         ", "5          | 1         "], [record], "a_long_name_x", "x")

    def test_fields_that_are_not_set(self):
        self.check_table(["x          | y         ", "1          |           "], [HOLED.make(1)], "x", "y")
        self.check_table(["y          | x         ", "           | 1         "], [HOLED.make(1)], "y", "x")

    def test_records_of_different_kinds(self):
        self.check_table(["x         ", "1         ", "2         "], [POINT.make(1), HOLED.make(2)], "x")

    def test_no_records_and_no_names(self):
        self.check_table(["x          | nothing   "], [], "x", "nothing")
        self.check_table(["x         "], (), "x")
        self.check_table([""], [])
        self.check_table(["", "", ""], [POINT.make(1), HOLED.make(2)])

    def test_records_may_be_passed_by_name(self):
        self.check_same(record_table(records=[POINT.make(1)]), "\n")

    def test_names_that_no_field_has(self):
        for name in ("z", "", "X", "kind", "a_long_nam"):
            self.check_error(NoField, {"name": name}, record_table, [POINT.make(1)], "x", name, "no")
        for name in odd_values():
            self.check_error(NoField, {"name": name}, record_table, [POINT.make(1)], "x", name)
        self.check_error(NoField, {"name": "y"}, record_table, [POINT.make(1), Kind("K", Field("x")).make(1)], "x", "y")

    def test_values_that_are_too_deep(self):
        for value in too_deep_values():
            self.check_error(TooDeep, {}, record_table, [POINT.make(1), POINT.make(1, value)], "x", "y")
        self.check_table(["x         ", '[({"a": [('], [POINT.make(nested(50))], "x")

    def test_only_the_named_fields_are_judged(self):
        self.check_table(["x         ", "1         "], [POINT.make(1, nested(51))], "x")

    def test_order_of_errors(self):
        deep = POINT.make(nested(51))
        self.check_error(NoField, {"name": "z"}, record_table, [POINT.make(1), deep], "z", "x")
        self.check_error(TooDeep, {}, record_table, [deep, POINT.make(1)], "x", "z")
        self.check_error(NoField, {"name": "z"}, record_table, [deep], "z", "x")
        self.check_error(NoField, {"name": "z"}, record_table, [POINT.make(1), deep], "x", "z")
