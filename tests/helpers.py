"""What the tests share."""

import unittest

from recordcraft.errors import RecordcraftError
from recordcraft.kinds import Kind
from recordcraft.members import Field, Hook, InitOnly, Method, Shared


class EqualToAll:
    """Claims to be equal to anything, so that membership tests by == would accept it."""

    def __eq__(self, other):
        return True

    def __hash__(self):
        return 0


class Stubborn:
    """Cannot be compared, hashed, measured or iterated over."""

    __hash__ = None

    def __eq__(self, other):
        raise AssertionError("compared")

    def __len__(self):
        raise AssertionError("measured")

    def __iter__(self):
        raise AssertionError("iterated over")


def nothing(*values):
    return None


def values_of_no_sort():
    """Values that are valid nowhere: they are not even values of [10]."""
    return [object(), b"x", set(), {"x"}, frozenset(), range(2), type, int, len, nothing, EqualToAll(), Stubborn(),
            NotImplemented, ..., Field, Field("x"), Hook(nothing), Kind, Kind("Odd"), ValueError("x")]


def odd_values():
    """Values of all sorts that are no text, and values that are valid nowhere."""
    loop = []
    loop.append(loop)
    return [None, True, False, 0, 1, -1, 10 ** 30, (), ("x",), [], ["x"], {}, {"x": 1}, loop,
            Kind("Odd", Field("x")).make(1)] + values_of_no_sort()


def nested(levels, inside=0):
    """A value that has parts of parts, and so on, this many times."""
    value = inside
    for level in range(levels):
        value = [(value,), [value], {"a": value}][level % 3]
    return value


def nested_tuple(levels, inside=0):
    value = inside
    for _ in range(levels):
        value = (value,)
    return value


def often(times):
    """A value in which each part occurs twice, so that it has 2 ** times values and more."""
    value = [1, 2]
    for _ in range(times):
        value = [value, value]
    return value


def looped():
    """Values that contain themselves, in each way."""
    as_list = []
    as_list.append(as_list)
    as_dict = {}
    as_dict["a"] = as_dict
    through_tuple = []
    through_tuple.append((1, through_tuple))
    record = Kind("Loop", Field("x")).make(1)
    record["x"] = [record]
    return [as_list, as_dict, through_tuple, (through_tuple,), record]


def too_deep_values():
    return [nested(51), nested(51, []), [0] * 5000, (0,) * 5000, {str(at): 0 for at in range(5000)},
            [[0] * 4998, 0], often(12), often(40), often(200), [0] * 1000000] + looped()


class CraftTestCase(unittest.TestCase):
    """A test case that can check errors with their fields."""

    def check_error(self, kind, fields, function, *values, **named):
        """The call raises exactly this error, and its fields are the very objects, or equal plain data."""
        try:
            result = function(*values, **named)
        except RecordcraftError as error:
            self.assertIs(error.__class__, kind, repr(error))
            self.assertEqual(sorted(vars(error)), sorted(fields))
            for name, value in fields.items():
                told = getattr(error, name)
                if told is not value:
                    self.assertIs(type(told), type(value))
                    self.assertIn(type(value), (str, int, tuple))
                    self.assertEqual(told, value)
            return error
        self.fail(f"{kind.__name__} was not raised, but the answer was {result!r}")

    def check_same(self, one, other):
        """The same sort and the same value, so that True is not 1."""
        self.assertIs(type(one), type(other))
        self.assertEqual(one, other)
