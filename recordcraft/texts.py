"""Books from texts of declarations."""

from recordcraft.errors import ParseError
from recordcraft.kinds import Kind
from recordcraft.members import Field, InitOnly, Shared
from recordcraft.names import DIGITS, is_name
from recordcraft.plain import Book

MAX_DIGITS = 9
CONSTANTS = {"None": None, "True": True, "False": False}
LINE_WORDS = ("kind", "field", "initonly", "shared")
KIND_WORDS = (("order", "order", True), ("frozen", "frozen", True), ("only_named", "only_named", True),
              ("no_equal", "equal", False), ("no_show", "show", False))
INIT_ONLY_WORDS = (("named", "only_named", True), ("positional", "only_named", False))
FIELD_WORDS = (("no_init", "init", False), ("no_compare", "compare", False), ("no_show", "show", False),
               ("key", "key", True), ("no_key", "key", False), ("named", "only_named", True),
               ("positional", "only_named", False))


class WordRow:
    """The words of a line, which are read one after the other."""

    def __init__(self, number, line):
        self._number = number
        self._words = line.split(" ")
        self._place = 0
        if "" in self._words:
            raise ParseError(number, 0)

    def front(self):
        """Returns the word that is read next, or an empty text at the end."""
        return self._words[self._place] if self._place < len(self._words) else ""

    def step(self):
        """Reads the next word and returns it."""
        word = self.front()
        self._place += 1
        return word

    def refuse(self):
        """Raises the error that the next word is not allowed, or missing."""
        raise ParseError(self._number, self._place + 1)

    def read_one_of(self, words):
        """Reads one of these words."""
        if self.front() not in words:
            self.refuse()
        return self.step()

    def read_name(self, known):
        """Reads a name that is not a known one."""
        if not is_name(self.front()) or self.front() in known:
            self.refuse()
        return self.step()

    def read_options(self, table):
        """Reads all words that stand in a table, and returns the options that they set."""
        rows = {word: (option, value) for word, option, value in table}
        options = {}
        while self.front() in rows:
            option, value = rows[self.step()]
            options[option] = value
        return options

    def read_value(self):
        """Reads a value."""
        if not _is_value(self.front()):
            self.refuse()
        return _value_of(self.step())

    def read_default(self, options):
        """Reads a default, if there is one, and adds it to the options."""
        if self.front() == "=":
            self.step()
            options["default"] = self.read_value()

    def read_end(self):
        """Refuses any word that is left."""
        if self.front() != "":
            self.refuse()


class Draft:
    """A kind whose members are being read."""

    def __init__(self, name, above, options):
        self.name = name
        self.above = above
        self.options = options
        self.members = []

    def declare_in(self, kinds):
        """Declares the kind, and adds it to a dict of kinds."""
        kinds[self.name] = Kind.of(self.name, tuple(self.members), self.above, self.options)


def read_book(text):
    """Returns the book of a text of declarations."""
    if not isinstance(text, str):
        raise ParseError(0, 0)
    kinds = {}
    draft = None
    for place, line in enumerate(text.split("\n")):
        row = WordRow(place + 1, line)
        word = row.read_one_of(("kind",) if draft is None else LINE_WORDS)
        if word != "kind":
            draft.members.append(_member_of(word, row))
            continue
        if draft is not None:
            draft.declare_in(kinds)
        draft = _draft_of(row, kinds)
    draft.declare_in(kinds)
    found = list(kinds.values())
    return Book(*found)


def _draft_of(row, kinds):
    name = row.read_name(kinds)
    options = row.read_options(KIND_WORDS)
    above = []
    if row.front() == "above":
        row.step()
        while not above or row.front() != "":
            above.append(kinds[row.read_one_of(kinds)])
    row.read_end()
    return Draft(name, tuple(above), options)


def _member_of(word, row):
    name = row.read_name(())
    if word == "shared":
        row.read_one_of(("=",))
        value = row.read_value()
        row.read_end()
        return Shared(name, value)
    factories = (("list", "factory", _new_list), ("dict", "factory", _new_dict))
    table = (*FIELD_WORDS, *factories) if word == "field" else INIT_ONLY_WORDS
    options = row.read_options(table)
    row.read_default(options)
    row.read_end()
    return Field.of(name, options) if word == "field" else InitOnly.of(name, options)


def _new_list():
    return []


def _new_dict():
    return {}


def _is_value(word):
    return word in CONSTANTS or _is_integer(word) or _is_quoted(word)


def _is_integer(word):
    if word == "" or len(word) > MAX_DIGITS:
        return False
    for sign in word:
        if sign not in DIGITS:
            return False
    return word[0] != "0" or word == "0"


def _is_quoted(word):
    if len(word) < 2 or not word.startswith("\"") or not word.endswith("\""):
        return False
    return "\"" not in word[1:-1] and "\\" not in word


def _value_of(word):
    """The value of a word, of which it is known that it is one."""
    if word in CONSTANTS:
        return CONSTANTS[word]
    if word.startswith("\""):
        return word[1:-1]
    return int(word)
