"""Texts of declarations: [80] and the module texts."""

import itertools

from recordcraft.errors import InvalidKind, InvalidMember, ParseError
from recordcraft.kinds import Kind
from recordcraft.members import Field, InitOnly
from recordcraft.plain import Book
from recordcraft.records import shown
from recordcraft.texts import read_book
from tests.helpers import CraftTestCase, odd_values, too_deep_values

KIND_WORDS = ("order", "frozen", "only_named", "no_equal", "no_show")
FIELD_WORDS = ("no_init", "no_compare", "no_show", "key", "no_key", "named", "positional", "list", "dict")
INIT_ONLY_WORDS = ("named", "positional")
BARRED_NAMES = ("and", "as", "class", "def", "else", "for", "if", "in", "is", "not", "or", "pass", "self")
NO_NAMES = BARRED_NAMES + ("1a", "a-b", "=", "a=", '"a"', "x" * 41, "a.b", "-")
VALUES = (("None", None), ("True", True), ("False", False), ("0", 0), ("7", 7), ("10", 10), ("999999999", 999999999),
          ('""', ""), ('"a"', "a"), ('"None"', "None"), ('"a\'b=,()~"', "a'b=,()~"), ('"0"', "0"))
NO_VALUES = ("none", "true", "00", "01", "007", "1234567890", "0000000000", "-1", "+1", "1_0", "1.0", "1a", "a", "list",
             "()", "[]", '"', '"a', 'a"', '"a"b', '"a"b"', '"""', '"\\"', '"\\n"', '"a\\"', "'a'", "=", "x" * 30)


def kind_of(text):
    """The last kind of a text of declarations."""
    book = read_book(text)
    return book[book.kind_names[-1]]


class TextTestCase(CraftTestCase):
    def check_error_at(self, line, word, text):
        self.check_error(ParseError, {"line": line, "word": word}, read_book, text)


class KindLineTest(TextTestCase):
    def test_kinds(self):
        book = read_book("kind A\nkind B\nfield x\nkind C above B A\nkind kind")
        self.assertIsInstance(book, Book)
        self.assertEqual(book.kind_names, ("A", "B", "C", "kind"))
        self.assertEqual(book["C"].above, (book["B"], book["A"]))
        self.assertEqual(book["C"].field_names, ("x",))
        self.assertEqual(len(read_book(text="kind A")), 1)

    def test_options(self):
        for many in range(len(KIND_WORDS) + 1):
            for words in itertools.permutations(KIND_WORDS, many):
                text = " ".join(["kind", "A", *words])
                if "order" in words and "no_equal" in words:
                    self.check_error(InvalidKind, {"rule": "order", "item": None}, read_book, text)
                    continue
                kind = kind_of(text)
                self.assertIs(kind.order, "order" in words)
                self.assertIs(kind.frozen, "frozen" in words)
                self.assertIs(kind.only_named, "only_named" in words)
                self.assertIs(kind.equal, "no_equal" not in words)
                self.assertIs(kind.show, "no_show" not in words)

    def test_repeated_options(self):
        kind = kind_of("kind A order order frozen order")
        self.assertEqual((kind.order, kind.frozen, kind.equal), (True, True, True))

    def test_options_and_kinds_above(self):
        book = read_book("kind A order\nkind B order no_show above A\nfield x")
        self.assertEqual((book["B"].above, book["B"].show, book["B"].order), ((book["A"],), False, True))

    def test_names_that_are_words(self):
        book = read_book("kind order order\nkind above above order\nkind field above above order\nfield field\n"
                         "field key key\ninitonly named named\nshared shared = 1")
        self.assertEqual(book.kind_names, ("order", "above", "field"))
        self.assertEqual(book["field"].line, (book["field"], book["above"], book["order"]))
        self.assertEqual(book["field"].signature(), "(field, key, *, named)")

    def test_names_that_are_none(self):
        for name in NO_NAMES:
            self.check_error_at(1, 2, f"kind {name}")
            self.check_error_at(2, 2, f"kind A\nkind {name} what")
        self.assertEqual(read_book(f"kind {'x' * 40}").kind_names, ("x" * 40,))

    def test_names_must_be_new(self):
        self.check_error_at(2, 2, "kind A\nkind A")
        self.check_error_at(4, 2, "kind A\nfield x\nkind B\nkind A no")

    def test_missing_name(self):
        self.check_error_at(1, 2, "kind")
        self.check_error_at(3, 2, "kind A\nfield x\nkind")

    def test_other_words(self):
        for word in ("equal", "show", "no_order", "key", "Order", "=", "1", "A", "kind"):
            self.check_error_at(1, 3, f"kind A {word}")
            self.check_error_at(1, 5, f"kind A order frozen {word} above")

    def test_names_above(self):
        self.check_error_at(1, 4, "kind A above")
        self.check_error_at(1, 5, "kind A order above")
        self.check_error_at(1, 4, "kind A above A")
        self.check_error_at(1, 4, "kind A above B\nkind B")
        self.check_error_at(2, 5, "kind A\nkind B above A B")
        self.check_error_at(2, 5, "kind A\nkind B above A order")
        self.check_error_at(2, 5, "kind A\nkind B above A above A")
        for name in NO_NAMES:
            self.check_error_at(2, 4, f"kind A\nkind B above {name} A")

    def test_one_name_above_twice(self):
        self.check_error(InvalidKind, {"rule": "above", "item": 1}, read_book, "kind A\nkind B above A A")

    def test_many_kinds(self):
        names = [f"k{at}" for at in range(2000)]
        self.assertEqual(read_book("\n".join([f"kind {name}" for name in names])).kind_names, tuple(names))


class FieldLineTest(TextTestCase):
    def field(self, words):
        return kind_of(f"kind A\nfield x{words}").fields[0]

    def check_options(self, words, **options):
        expected, field = Field("x", **options), self.field(words)
        for name in ("name", "has_default", "default", "has_factory", "only_named", "init", "compare", "show", "key"):
            self.check_same(getattr(field, name), getattr(expected, name))

    def test_options(self):
        self.check_options("")
        self.check_options(" no_init", init=False)
        self.check_options(" no_compare", compare=False)
        self.check_options(" no_show", show=False)
        self.check_options(" key", key=True)
        self.check_options(" no_key", key=False)
        self.check_options(" named", only_named=True)
        self.check_options(" positional", only_named=False)
        self.check_options(" no_key no_init positional no_show no_compare = 5", key=False, init=False, only_named=False,
                           show=False, compare=False, default=5)

    def test_repeated_and_contrary_words(self):
        self.check_options(" no_show no_show", show=False)
        self.check_options(" key no_key", key=False)
        self.check_options(" no_key key", key=True)
        self.check_options(" key no_key key", key=True)
        self.check_options(" named positional", only_named=False)
        self.check_options(" positional named no_init positional named", only_named=True, init=False)
        self.check_options(" key no_compare no_key", key=False, compare=False)

    def test_factories(self):
        for words, value in ((" list", []), (" dict", {}), (" list dict", {}), (" dict list", []),
                             (" list key list", []), (" dict list dict", {})):
            kind = kind_of(f"kind A\nfield x{words}")
            one, other = kind.make()["x"], kind.make()["x"]
            self.check_same(one, value)
            self.assertIsNot(one, other)
            self.assertEqual(kind.signature(), "(x=...)")
            self.assertIs(kind.fields[0].has_default, False)

    def test_defaults(self):
        for word, value in VALUES:
            field = self.field(f" = {word}")
            self.assertIs(field.has_default, True)
            self.check_same(field.default, value)
            self.assertIs(self.field(f" no_show named = {word}").show, False)
        self.assertIs(self.field("").has_default, False)

    def test_values_that_are_none(self):
        for word in NO_VALUES:
            self.check_error_at(2, 4, f"kind A\nfield x = {word}")
            self.check_error_at(2, 5, f"kind A\nfield x list = {word} what")
            self.check_error_at(2, 4, f"kind A\ninitonly x = {word}")
            self.check_error_at(2, 4, f"kind A\nshared x = {word}")

    def test_missing_words(self):
        self.check_error_at(2, 2, "kind A\nfield")
        self.check_error_at(2, 4, "kind A\nfield x =")
        self.check_error_at(2, 6, "kind A\nfield x key no_init =")

    def test_other_words(self):
        for word in ("init", "default", "factory", "order", "no_named", "only_named", "no_equal", "List", "x", "1",
                     "above", "==", "=1", "None"):
            self.check_error_at(2, 3, f"kind A\nfield x {word}")
            self.check_error_at(2, 5, f"kind A\nfield x key list {word} = 1")

    def test_words_behind_the_default(self):
        for word in ("2", "key", "=", "named", '"'):
            self.check_error_at(2, 5, f"kind A\nfield x = 1 {word}")

    def test_names_that_are_none(self):
        for name in NO_NAMES:
            for word in ("field", "initonly", "shared"):
                self.check_error_at(3, 2, f"kind A\nfield y\n{word} {name} what")
        self.assertEqual(kind_of(f"kind A\nfield {'x' * 40}").field_names, ("x" * 40,))

    def test_refused_fields(self):
        for words in ("list = 3", "dict = None", "key no_compare list = 1"):
            self.check_error(InvalidMember, {"rule": "both", "item": "x"}, read_book, f"kind A\nfield x {words}")
        for words in ("key no_compare", "no_compare key", "no_key no_compare key = 1"):
            self.check_error(InvalidMember, {"rule": "key", "item": "x"}, read_book, f"kind A\nfield x {words}")


class OtherLinesTest(TextTestCase):
    def test_init_only_members(self):
        for words, signature in (("", "(y)"), (" = 5", "(y=5)"), (" named", "(*, y)"), (" positional", "(y)"),
                                 (" named positional = None", "(y=None)"), (" positional named", "(*, y)"),
                                 (" named named", "(*, y)")):
            kind = kind_of(f"kind A\ninitonly y{words}")
            self.assertEqual((kind.signature(), kind.fields), (signature, ()))
        self.assertEqual(kind_of("kind A only_named\ninitonly y positional\ninitonly z").signature(), "(y, *, z)")

    def test_init_only_members_have_few_words(self):
        for word in set(FIELD_WORDS) - set(INIT_ONLY_WORDS):
            self.check_error_at(2, 3, f"kind A\ninitonly x {word}")
        self.check_error_at(2, 2, "kind A\ninitonly")
        self.check_error_at(2, 4, "kind A\ninitonly x =")
        self.check_error_at(2, 4, "kind A\ninitonly x named key = 1")
        self.check_error_at(2, 5, "kind A\ninitonly x = 1 2")

    def test_shared_values(self):
        for word, value in VALUES:
            self.check_same(kind_of(f"kind A\nshared s = {word}").shared("s"), value)

    def test_shared_values_have_one_form(self):
        self.check_error_at(2, 2, "kind A\nshared")
        self.check_error_at(2, 3, "kind A\nshared s")
        self.check_error_at(2, 4, "kind A\nshared s =")
        self.check_error_at(2, 5, "kind A\nshared s = 1 2")
        for word in ("named", "1", "key", "==", "list"):
            self.check_error_at(2, 3, f"kind A\nshared s {word} = 1")

    def test_unknown_lines(self):
        for word in ("fields", "Field", "method", "hook", "kinds", "=", "1", "x", "order"):
            self.check_error_at(1, 1, word)
            self.check_error_at(2, 1, f"kind A\n{word} x")

    def test_before_the_first_kind(self):
        for line in ("field x", "initonly x", "shared x = 1", "field", "what"):
            self.check_error_at(1, 1, f"{line}\nkind A")


class SeparationTest(TextTestCase):
    def test_texts_that_are_empty(self):
        self.check_error_at(1, 0, "")
        self.check_error_at(1, 0, "\n")
        self.check_error_at(1, 0, "\nkind A")
        self.check_error_at(2, 0, "kind A\n\nfield x")

    def test_line_feed_at_the_end(self):
        self.check_error_at(2, 0, "kind A\n")
        self.check_error_at(3, 0, "kind A\nfield x\n")
        self.check_error_at(3, 0, "kind A\nfield x\n\n")

    def test_spaces(self):
        for line in (" field x", "field x ", "field  x", "field x  = 1", " ", "  ", " field", "field x = 1 "):
            self.check_error_at(2, 0, f"kind A\n{line}")
            self.check_error_at(2, 0, f"kind A\n{line}\nwhat")
        for line in (" kind A", "kind A ", "kind  A"):
            self.check_error_at(1, 0, line)

    def test_separation_is_looked_at_before_the_words_of_the_line(self):
        self.check_error_at(2, 0, "kind A\nwhat 1  2")
        self.check_error_at(1, 0, "what ")
        self.check_error_at(1, 1, "what\nfield x ")
        self.check_error_at(2, 3, "kind A\nfield x what\n ")

    def test_values_that_are_no_texts(self):
        for value in [*odd_values(), ["kind A"], b"kind A", *too_deep_values()]:
            self.check_error_at(0, 0, value)


class WhenErrorsComeTest(TextTestCase):
    def test_invalid_members_come_when_a_line_has_been_read(self):
        bad = "kind A\nfield x list = 1"
        self.check_error(InvalidMember, {"rule": "both", "item": "x"}, read_book, f"{bad}\nwhat")
        self.check_error(InvalidMember, {"rule": "both", "item": "x"}, read_book, f"{bad}\n")
        self.check_error_at(2, 6, f"{bad} what")
        self.check_error_at(2, 0, f"{bad} ")

    def test_invalid_kinds_come_at_the_next_kind_or_at_the_end(self):
        bad = "kind A\nfield x\nfield x"
        error = (InvalidKind, {"rule": "member", "item": 1}, read_book)
        self.check_error(*error, bad)
        self.check_error(*error, f"{bad}\nkind B")
        self.check_error(*error, f"{bad}\nkind")
        self.check_error(*error, f"{bad}\nkind 1 2 3")
        self.check_error(*error, f"{bad}\nkind A what")
        self.check_error(*error, f"{bad}\nfield y\nkind B above")
        self.check_error_at(4, 0, f"{bad}\nkind ")
        self.check_error_at(4, 0, f"{bad}\nkind  B")
        self.check_error_at(4, 0, f"{bad}\n")
        self.check_error_at(4, 1, f"{bad}\nkinds B")
        self.check_error_at(4, 3, f"{bad}\nfield y what")
        self.check_error(InvalidMember, {"rule": "key", "item": "y"}, read_book, f"{bad}\nfield y key no_compare")

    def test_invalid_kind_comes_before_a_kind_of_the_same_name(self):
        self.check_error(InvalidKind, {"rule": "order", "item": None}, read_book, "kind A order no_equal\nkind A")

    def test_rules_of_kinds(self):
        many = "\n".join([f"field f{at}" for at in range(16)])
        self.assertEqual(len(kind_of(f"kind A\n{many}").fields), 16)
        for rule, item, text in (("member", 2, "kind A\nfield x\nfield y\nshared x = 1"),
                                 ("mixture", "x", "kind A\nfield x\nkind B above A\nshared x = 1"),
                                 ("order", None, "kind A\nfield x\nkind B order no_equal above A"),
                                 ("size", None, f"kind A\n{many}\ninitonly i"),
                                 ("default", "y", "kind A\nfield x = 1\nfield y"),
                                 ("default", "y", "kind A\nfield x list\ninitonly y\nkind B")):
            self.check_error(InvalidKind, {"rule": rule, "item": item}, read_book, text)

    def test_rules_with_kinds(self):
        with self.assertRaises(InvalidKind) as caught:
            read_book("kind A\nfield x\nkind B frozen above A")
        self.assertEqual((caught.exception.rule, caught.exception.item.name), ("frozen", "A"))
        with self.assertRaises(InvalidKind) as caught:
            read_book("kind A\nkind B above A\nkind C above A B\nfield x")
        self.assertEqual(caught.exception.rule, "line")
        self.assertEqual({kind.name for kind in caught.exception.item}, {"A", "B"})


class MeaningTest(TextTestCase):
    """A text declares what one would otherwise declare by hand."""

    def test_kinds_behave_as_declared(self):
        text = ('kind Base order frozen\nfield x\nfield y no_compare = 5\nshared top = "t"\n'
                'kind Spot order frozen only_named above Base\nfield tags named list no_key\n'
                'initonly seed positional = 1')
        book = read_book(text)
        base = Kind("Base", Field("x"), Field("y", default=5, compare=False), order=True, frozen=True)
        spot = Kind("Spot", Field("tags", only_named=True, factory=list, key=False),
                    InitOnly("seed", only_named=False, default=1), order=True, frozen=True, only_named=True,
                    above=(base,))
        for kind in (base, spot):
            self.assertEqual(book[kind.name].signature(), kind.signature())
            self.assertEqual(shown(book[kind.name].make(1)), shown(kind.make(1)))
        self.assertEqual(book["Spot"].shared("top"), "t")
        self.assertTrue(book["Spot"].make(1, 2) == book["Spot"].make(1, 3))
        self.assertTrue(book["Spot"].make(1) < book["Spot"].make(2))

    def test_long_text(self):
        lines = ["kind A"] + [f'shared s{at} = "{"x" * 20}"' for at in range(500)]
        text = "\n".join(lines)
        self.assertGreater(len(text), 15000)
        self.assertEqual(kind_of(text).shared("s499"), "x" * 20)
