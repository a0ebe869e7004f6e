"""Lines and rings: [31], [34], [50] and the module lines."""

import itertools
import random

from recordcraft.errors import InvalidAnswer, InvalidKind
from recordcraft.kinds import Kind
from recordcraft.lines import check_ring
from tests.helpers import CraftTestCase, odd_values


def declared(graph):
    """The kinds of a list of tuples of positions of kinds above; None where there is no line."""
    kinds = []
    for at, above in enumerate(graph):
        if any(kinds[spot] is None for spot in above):
            kinds.append(None)
            continue
        above = tuple(kinds[spot] for spot in above)
        try:
            kinds.append(Kind(f"K{at}", above=above))
        except InvalidKind as error:
            assert error.rule in ("line", "size")
            kinds.append(None)
    return kinds


def classes_of(graph):
    """Python orders classes with several bases in the same way."""
    classes = []
    for at, above in enumerate(graph):
        if any(classes[spot] is None for spot in above):
            classes.append(None)
            continue
        try:
            classes.append(type(f"K{at}", tuple(classes[spot] for spot in above) or (object,), {}))
        except TypeError:
            classes.append(None)
    return classes


def some_graphs(seed, many):
    chance = random.Random(seed)
    for _ in range(many):
        graph = []
        for at in range(chance.randint(2, 9)):
            graph.append(tuple(chance.sample(range(at), min(at, chance.randint(0, 4)))))
        yield graph


def rows_of(above):
    return [kind.line for kind in above] + [above]


def is_ring(above, ring):
    """[34], told in another way than the program does."""
    rows = rows_of(above)
    before = {(id(one), id(other)) for row in rows for one, other in itertools.combinations(row, 2)}
    pairs = zip(ring, (*ring[1:], ring[0]))
    return len(ring) >= 2 and all((id(one), id(other)) in before for one, other in pairs)


def diamond():
    top = Kind("Top")
    left = Kind("Left", above=(top,))
    right = Kind("Right", above=(top,))
    return top, left, right


class LineTest(CraftTestCase):
    def test_small_lines(self):
        top, left, right = diamond()
        self.assertEqual(top.line, (top,))
        self.assertEqual(left.line, (left, top))
        both = Kind("Both", above=(left, right))
        self.assertEqual(both.line, (both, left, right, top))
        other = Kind("Other", above=(right, left, top))
        self.assertEqual(other.line, (other, right, left, top))
        self.assertIs(type(other.line), tuple)

    def test_same_order_as_python(self):
        lines = refused = 0
        for graph in some_graphs(1, 3000):
            kinds = declared(graph)
            for kind, plain in zip(kinds, classes_of(graph)):
                self.assertEqual(kind is None, plain is None)
                if kind is None:
                    refused += 1
                else:
                    lines += 1
                    self.assertEqual([one.name for one in kind.line], [one.__name__ for one in plain.__mro__[:-1]])
        self.assertGreater(lines, 5000)
        self.assertGreater(refused, 500)

    def test_line_keeps_the_order_of_every_row(self):
        for graph in some_graphs(2, 500):
            for kind in declared(graph):
                if kind is None:
                    continue
                self.assertIs(kind.line[0], kind)
                rows = rows_of(kind.above)
                self.assertEqual({id(one) for one in kind.line[1:]}, {id(one) for row in rows for one in row})
                self.assertEqual(len({id(one) for one in kind.line}), len(kind.line))
                for row in [*rows, *[(one, *one.above) for one in kind.line]]:
                    spots = [kind.line.index(one) for one in row]
                    self.assertEqual(spots, sorted(spots))

    def test_refused_lines_come_with_a_ring(self):
        refused = 0
        for graph in some_graphs(3, 3000):
            kinds = [kind for kind in declared(graph[:-1]) if kind is not None]
            for size in (2, 3, 4):
                above = tuple(kinds[-size:])
                try:
                    Kind("New", above=above)
                except InvalidKind as error:
                    refused += 1
                    self.assertEqual(error.rule, "line")
                    self.assertTrue(is_ring(above, error.item))
                    self.assertEqual(check_ring(above, error.item), len(error.item))
        self.assertGreater(refused, 200)

    def test_ring_if_and_only_if_no_order(self):
        """All orders of all kinds of the rows are tried."""
        for graph in some_graphs(4, 400):
            kinds = [kind for kind in declared(graph) if kind is not None]
            above = tuple(kinds[-2:])
            together = {id(one): one for row in rows_of(above) for one in row}
            if len(together) > 6:
                continue
            found = any(all([order.index(one) for one in row] == sorted(order.index(one) for one in row)
                            for row in rows_of(above)) for order in itertools.permutations(together.values()))
            try:
                Kind("New", above=above)
                self.assertTrue(found)
                for size in (2, 3):
                    for ring in itertools.permutations(together.values(), size):
                        self.assertFalse(is_ring(above, ring))
            except InvalidKind:
                self.assertFalse(found)

    def test_simple_ring(self):
        top, left, right = diamond()
        one = Kind("One", above=(left, right))
        other = Kind("Other", above=(right, left))
        error = self.refusal((one, other))
        self.assertIn(error.item, ((left, right), (right, left)))
        error = self.refusal((top, left))
        self.assertIn(error.item, ((top, left), (left, top)))

    def test_ring_of_three(self):
        first, second, third = Kind("A"), Kind("B"), Kind("C")
        above = (Kind("X", above=(first, second)), Kind("Y", above=(second, third)), Kind("Z", above=(third, first)))
        error = self.refusal(above)
        self.assertIn(error.item, ((first, second, third), (second, third, first), (third, first, second)))

    def refusal(self, above):
        try:
            Kind("New", above=above)
        except InvalidKind as error:
            self.assertEqual(error.rule, "line")
            self.assertIs(type(error.item), tuple)
            return error
        self.fail("there is a line")


class CheckRingTest(CraftTestCase):
    def setUp(self):
        self.first, self.second, self.third = Kind("A"), Kind("B"), Kind("C")
        self.above = (Kind("X", above=(self.first, self.second)), Kind("Y", above=(self.second, self.third)),
                      Kind("Z", above=(self.third, self.first)))

    def test_rings(self):
        ring = (self.first, self.second, self.third)
        self.check_same(check_ring(self.above, ring), 3)
        self.check_same(check_ring(above=self.above, ring=ring[1:] + ring[:1]), 3)
        one, other = Kind("P", above=(self.first, self.second)), Kind("Q", above=(self.second, self.first))
        self.check_same(check_ring((one, other), (self.first, self.second)), 2)
        self.check_same(check_ring((self.first, one), (one, self.first)), 2)

    def test_form(self):
        ring = [self.first, self.second, self.third]
        for value in [ring, (), (self.first,), *odd_values(), "AB", dict.fromkeys(ring)]:
            self.check_error(InvalidAnswer, {"part": "form"}, check_ring, self.above, value)

    def test_kind_of_the_first_item(self):
        for value in [*odd_values(), "A", Kind("A"), Kind]:
            self.check_error(InvalidAnswer, {"part": "kind"}, check_ring, self.above, (value, self.first))

    def test_kind_of_a_later_item(self):
        for value in [*odd_values(), "A", Kind("A")]:
            # The item before the first one is the last one, whatever it is.
            self.check_error(InvalidAnswer, {"part": "order"}, check_ring, self.above, (self.first, value))
            ring = (self.second, value, self.first)
            self.check_error(InvalidAnswer, {"part": "kind"}, check_ring, self.above, ring)

    def test_order(self):
        for ring in ((self.first, self.third), (self.third, self.second, self.first), (self.first, self.first),
                     (self.first, self.second), self.above, (self.first, self.second, self.third, self.above[0])):
            self.check_error(InvalidAnswer, {"part": "order"}, check_ring, self.above, ring)

    def test_without_kinds_above(self):
        self.check_error(InvalidAnswer, {"part": "kind"}, check_ring, (), (self.first, self.second))

    def test_kinds_that_stand_far_behind(self):
        low = Kind("Low", above=(Kind("Mid", above=(self.first,)),))
        self.check_same(check_ring((self.first, low), (low, self.first)), 2)
