"""The examples of the document, word for word."""

import doctest
import unittest

EXAMPLES = {
    "members": r"""
>>> from recordcraft.members import Field
>>> Field("x", default=3, compare=False).is_key(), Field.of("y", {"key": True}).is_key(), Field("z").has_default
(False, True, False)
""",
    "kinds": r"""
>>> from recordcraft.kinds import Kind
>>> from recordcraft.members import Field, Hook, InitOnly
>>> from recordcraft.records import shown
>>> point = Kind("Point", Field("x"), Field("y", default=0), order=True)
>>> spot = Kind("Spot", Field("y", default=7), Field("tags", factory=lambda: [], compare=False, only_named=True), above=(point,), order=True)
>>> spot.signature(), shown(spot.make(1)), point.make(1) == point.make(1, 0), spot.make(1, 2) < spot.make(1, 5)
('(x, y=7, *, tags=...)', 'Spot(x=1, y=7, tags=[])', True, True)
""",
    "copies": r"""
>>> from recordcraft.copies import changed, deep_copy
>>> from recordcraft.kinds import Kind
>>> from recordcraft.members import Field
>>> from recordcraft.records import shown
>>> point = Kind("Point", Field("x"), Field("y", default=0), order=True, frozen=True)
>>> spot = point.make(1, [2])
>>> copy = deep_copy(spot)
>>> spot["y"].append(3)
>>> shown(changed(spot, x=5)), shown(copy), copy == point.make(1, [2])
('Point(x=5, y=[2, 3])', 'Point(x=1, y=[2])', True)
""",
    "shelves": r"""
>>> from recordcraft.kinds import Kind
>>> from recordcraft.members import Field
>>> from recordcraft.shelves import Shelf
>>> point = Kind("Point", Field("x"), Field("y", default=0), order=True, frozen=True)
>>> shelf = Shelf()
>>> shelf.keep(point.make(1, 2), "a")
>>> shelf.keep(point.make(1), "b")
>>> shelf.keep(point.make(1, 2), "c")
>>> len(shelf), shelf[point.make(1, 2)], point.make(2) in shelf, [pair[1] for pair in shelf.pairs()]
(2, 'c', False, ['c', 'b'])
""",
    "sorting": r"""
>>> from recordcraft.kinds import Kind
>>> from recordcraft.members import Field
>>> from recordcraft.sorting import sorted_values
>>> pair = Kind("Pair", Field("a"), Field("b", compare=False), order=True)
>>> some = [pair.make(2, 1), pair.make(1, 2), pair.make(2, 3)]
>>> [one["b"] for one in sorted_values(some)], [one["b"] for one in sorted_values(some, by="b", down=True)]
([2, 1, 3], [3, 2, 1])
""",
    "plain": r"""
>>> from recordcraft.kinds import Kind
>>> from recordcraft.members import Field
>>> from recordcraft.plain import Book, plain
>>> point = Kind("Point", Field("x"), Field("y", default=0), order=True, frozen=True)
>>> data = plain([point.make(1, (2, True))])
>>> data, Book(point).read(data) == [point.make(1, (2, True))]
(['list', ['record', 'Point', ['x', 1], ['y', ['tuple', 2, True]]]], True)
""",
    "workshops": r"""
>>> from recordcraft.kinds import Kind
>>> from recordcraft.members import Field
>>> from recordcraft.plain import Book
>>> from recordcraft.workshops import DistinctWorkshop
>>> shop = DistinctWorkshop(Book(Kind("Item", Field("x"), Field("y", default=0))))
>>> shop.add("a", "Item", (1,))
>>> shop.add("b", "Item", (2,), {"y": 5})
>>> shop.fill("a", "y", 7)
>>> shop.undo()
>>> shop["a"]["y"], shop.record_names, "c" in shop, shop.clash("Item", (1,)), shop.clash("Item", (3,))
(0, ('a', 'b'), False, 'a', None)
""",
    "texts": r"""
>>> from recordcraft.texts import read_book
>>> text = "kind Base\nfield x\nkind Spot order above Base\nfield y no_show = 3\nshared top = None"
>>> book = read_book(text)
>>> book.kind_names, book["Spot"].signature(), book["Spot"].shared("top"), book["Spot"].order
(('Base', 'Spot'), '(x, y=3)', None, True)
""",
    "tables": r"""
>>> from recordcraft.kinds import Kind
>>> from recordcraft.members import Field
>>> from recordcraft.tables import record_table
>>> point = Kind("Point", Field("x"), Field("y", default=0), order=True, frozen=True)
>>> record_table([point.make(1, "abcdefghijkl"), point.make(22)], "x", "y")
'x          | y         \n1          | "abcdefghi\n22         | 0         '
""",
}


class ExamplesTest(unittest.TestCase):
    def test_examples(self):
        for name, text in EXAMPLES.items():
            with self.subTest(name):
                example = doctest.DocTestParser().get_doctest(text, {}, name, None, 0)
                told = []
                result = doctest.DocTestRunner().run(example, out=told.append)
                self.assertGreater(result.attempted, 1)
                self.assertEqual(result.failed, 0, "".join(told))
