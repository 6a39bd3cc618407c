"""Texts of promises: what items of a desk have to fulfill."""

from allscales.errors import BadText
from allscales.words import is_name, named_power, ratio_word

# The words behind the first one, each with the kind of items that it is about.
KINDS = {"text": "formulas", "worth": "formulas", "letter": "record", "possible": "record", "settles": "record",
         "holds": "sizes", "sets": "sizes"}
LETTER_KINDS = ("free", "none", "power")


class Promise:
    """What a promise tells.

    name is that of the item, formula that of a formula of it, word the word behind them. units has
    the UNITWORDS of the parameters and of the result, letter and kind are told of a letter, ratios
    has the ratios in order, words are those of a product of sizes.
    """

    def __init__(self, name, formula, word):
        self.name = name
        self.formula = formula
        self.word = word
        self.units = []
        self.letter = None
        self.kind = None
        self.ratios = []
        self.words = []


class WordReader:
    """The words of a promise, read from the left to the right."""

    def __init__(self, text):
        self.words = text.split(" ")
        self.taken = 0

    def look(self):
        """The next word, None behind the last one."""
        return self.words[self.taken] if self.taken < len(self.words) else None

    def take(self):
        """The next word, which is then behind."""
        word = self.words[self.taken]
        self.taken += 1
        return word

    def refuse(self):
        """Raises the error that is due if the next word is wrong, or missing."""
        raise BadText(1, self.taken + 1)

    def take_one_of(self, words):
        """The next word, or the error that is due if it is none of these."""
        if self.look() not in words:
            self.refuse()
        return self.take()

    def take_name(self):
        """The next word, or the error that is due if it is no name."""
        if self.look() is None or not is_name(self.look()):
            self.refuse()
        return self.take()

    def take_ratio(self):
        """The ratio that the next word tells, or the error that is due if it tells none."""
        ratio = None if self.look() is None else ratio_word(self.look())
        if ratio is None:
            self.refuse()
        self.take()
        return ratio

    def take_powers(self, ends):
        """The words of a product of powers up to one of ends, or to the last word if there are no ends."""
        found = []
        while found == [] or self.look() not in ends:
            word = self.look()
            if word is None or word in ends or not goes_on(found, word):
                self.refuse()
            found.append(self.take())
        return found


def goes_on(found, word):
    """Whether a word can stand behind the words found of a product of powers."""
    if word == "1":
        return found == []
    return found != ["1"] and named_power(word) is not None


def read_promise(text):
    """The Promise of a text, or the error of its first wrong word."""
    if not isinstance(text, str):
        raise BadText(0, 0)
    reader = WordReader(text)
    promise = read_subject(reader)
    if promise.word in ("text", "worth"):
        read_formula_units(reader, promise)
    elif promise.word == "letter":
        read_letter_kind(reader, promise)
    elif promise.word == "settles":
        promise.ratios.append(reader.take_ratio())
        while reader.look() != "at":
            promise.ratios.append(reader.take_ratio())
        read_value(reader, promise)
    elif promise.word == "sets":
        promise.words = reader.take_powers(("at",))
        read_value(reader, promise)
    if reader.look() is not None:
        reader.refuse()
    return promise


def read_subject(reader):
    """The Promise that the first two words begin."""
    word = reader.look()
    name, point, formula = word.partition(".")
    if not is_name(name) or (point != "" and not is_name(formula)):
        reader.refuse()
    reader.take()
    words = [other for other in KINDS if (KINDS[other] == "formulas") == (point != "")]
    return Promise(name, formula, reader.take_one_of(words))


def read_formula_units(reader, promise):
    """Reads the units of the parameters and of the result of a formula."""
    # A formula without parameters can be asked for its result, but not for what it is worth.
    if promise.word == "worth" or reader.look() != "to":
        promise.units.append(reader.take_powers((",", "to")))
        while reader.look() == ",":
            reader.take()
            promise.units.append(reader.take_powers((",", "to")))
    reader.take()
    promise.units.append(reader.take_powers((None,)))


def read_letter_kind(reader, promise):
    """Reads the name of a letter, and what is promised of it."""
    promise.letter = reader.take_name()
    promise.kind = reader.take_one_of(LETTER_KINDS)
    if promise.kind == "power":
        promise.ratios.append(reader.take_ratio())


def read_value(reader, promise):
    """Reads the word `at`, which comes, and the value behind it."""
    reader.take()
    promise.ratios.append(reader.take_ratio())
