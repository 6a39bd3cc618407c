"""What the lines of a record and of sizes tell at a desk."""

from allscales.errors import BadText
from allscales.exact import ratio_product
from allscales.records import Records
from allscales.words import (exponents_in, is_name, powers_of, ratio_word, size_in, wrong_names_column,
                             wrong_unit_word)

MOST_UNKNOWN = 4


class Measured:
    """A record with the names of its letters, and the sizes of their units and, behind them, of that of the value."""

    def __init__(self, names, sizes, record):
        self.names = names
        self.sizes = sizes
        self.record = record


class Equations:
    """Equations between unknown sizes: their names, the rows, and the ratios."""

    def __init__(self, names, rows, ratios):
        self.names = names
        self.rows = rows
        self.ratios = ratios


def read_record(body, units):
    """The Measured that the lines of a record tell."""
    lines = [line.split(" ") for line in body]
    measures = units.measures
    names = read_letters(lines, measures)
    many = len(names)
    if many == len(lines) or lines[many][0] != "value":
        raise BadText(many + 1, 1)
    wrong = wrong_unit_word(lines[many][1:], measures)
    if wrong is not None:
        raise BadText(many + 1, wrong + 2)
    for number, words in enumerate(lines[many + 1:], many + 2):
        column = wrong_row_column(words, many)
        if column > 0:
            raise BadText(number, column)
    told = [powers_of(words[2:]) for words in lines[:many]] + [powers_of(lines[many][1:])]
    exponents = [exponents_in(powers, measures, len(units.base)) for powers in told]
    sizes = [size_in(powers, measures) for powers in told]
    rows = [in_base_units([ratio_word(word) for word in words[1:]], sizes) for words in lines[many + 1:]]
    return Measured(names, sizes, Records(exponents[:-1], exponents[-1], rows))


def in_base_units(numbers, sizes):
    """(inputs, value) in base units: numbers has the inputs and behind them the value, sizes those of their units."""
    told = [ratio_product(number, size) for number, size in zip(numbers, sizes)]
    return (tuple(told[:-1]), told[-1])


def read_letters(lines, measures):
    """The names of the letters that the first lines of a record tell."""
    names = []
    for number, words in enumerate(lines, 1):
        if words[0] != "letter":
            break
        column = wrong_letter_column(words, names, measures)
        if column > 0:
            raise BadText(number, column)
        names.append(words[1])
    if names == []:
        raise BadText(1, 1)
    return names


def wrong_letter_column(words, names, measures):
    """The column of the first wrong word of a line of a letter, 0 if it is right; names are those ahead of it."""
    if len(words) < 2 or not is_name(words[1]) or words[1] in names:
        return 2
    wrong = wrong_unit_word(words[2:], measures)
    return 0 if wrong is None else wrong + 3


def wrong_row_column(words, many):
    """The column of the first wrong word of a line of a row with so many inputs, 0 if it is right."""
    if words[0] != "row":
        return 1
    for at in range(1, many + 2):
        ratio = ratio_word(words[at]) if at < len(words) else None
        if ratio is None or (at <= many and ratio[0] <= 0):
            return at + 1
    return many + 3 if len(words) > many + 2 else 0


def read_equations(body):
    """The Equations that the lines of sizes tell."""
    lines = [line.split(" ") for line in body]
    column = 1 if lines == [] else wrong_names_column(lines[0], "unknown", MOST_UNKNOWN)
    if column > 0:
        raise BadText(1, column)
    names = lines[0][1:]
    if len(lines) == 1:
        raise BadText(2, 1)
    for number, words in enumerate(lines[1:], 2):
        column = wrong_equal_column(words, names)
        if column > 0:
            raise BadText(number, column)
    rows = [row_of_words(words[2:], names) for words in lines[1:]]
    return Equations(names, tuple(rows), tuple([ratio_word(words[1]) for words in lines[1:]]))


def wrong_equal_column(words, names):
    """The column of the first wrong word of a line of an equation, 0 if it is right."""
    if words[0] != "equal":
        return 1
    ratio = ratio_word(words[1]) if len(words) > 1 else None
    if ratio is None or ratio[0] <= 0:
        return 2
    wrong = wrong_unit_word(words[2:], names)
    return 0 if wrong is None else wrong + 3


def row_of_words(words, names):
    """The powers of all names that WORDS tell."""
    powers = powers_of(words)
    return tuple([powers.get(name, 0) for name in names])
