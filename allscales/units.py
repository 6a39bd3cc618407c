"""Units: a text of base units, units and scales."""

from allscales.errors import BadNumber, BadText
from allscales.exact import are_integers, ratio_product
from allscales.words import (checked_powers, exponents_in, is_name, lines_of, powers_of, ratio_word, size_in,
                             wrong_names_column, wrong_unit_word)

MOST_BASE = 6


class Units:
    """The names that a text of units tells.

    measures is a dict from the names of base units and units to (exponents, size), scales one from
    the names of scales to (other, a, b): a reading r on the scale is a * r + b on the other name.
    """

    def __init__(self, text):
        if not isinstance(text, str):
            raise BadText(0, 0)
        lines = [line.split(" ") for line in lines_of(text)]
        wrong = wrong_base_column(lines)
        if wrong > 0:
            raise BadText(1, wrong)
        base = tuple(lines[0][1:])
        measures = base_measures(base)
        scales = {}
        for number, words in enumerate(lines[1:], 2):
            wrong = wrong_column(words, measures, scales)
            if wrong > 0:
                raise BadText(number, wrong)
            if words[0] == "unit":
                measures[words[1]] = measure_of(words[2], words[3:], measures, len(base))
            else:
                scales[words[1]] = (words[2], ratio_word(words[3]), ratio_word(words[4]))
        self.text = text
        self.base = base
        self.names = base + tuple([words[1] for words in lines[1:]])
        self.measures = measures
        self.scales = scales

    def exponents_of(self, words):
        """The exponents of a text of UNITWORDS."""
        return exponents_in(read_powers(words, self.measures), self.measures, len(self.base))

    def size_of(self, words):
        """The size of a text of UNITWORDS."""
        return size_in(read_powers(words, self.measures), self.measures)

    def written(self, exponents):
        """The text of UNITWORDS of base units that has these exponents."""
        if not isinstance(exponents, tuple) or len(exponents) != len(self.base) or not are_integers(exponents):
            raise BadNumber("exponents", exponents)
        words = [name if power == 1 else f"{name}^{power}" for name, power in zip(self.base, exponents) if power != 0]
        return " ".join(words) if words else "1"


def base_measures(base):
    """The dict from the names of base units to (exponents, size)."""
    return {name: (tuple([1 if other == name else 0 for other in base]), (1, 1)) for name in base}


def measure_of(word, words, measures, many):
    """The pair (exponents, size) of a ratio, told by a word, times UNITWORDS; many tells the base units."""
    powers = powers_of(words)
    return (exponents_in(powers, measures, many), ratio_product(ratio_word(word), size_in(powers, measures)))


def wrong_base_column(lines):
    """The column of the first wrong word of the first line, 0 if it is right."""
    if lines == []:
        return 1
    return wrong_names_column(lines[0], "base", MOST_BASE)


def wrong_column(words, measures, scales):
    """The column of the first wrong word of a line of a unit or a scale, 0 if it is right."""
    if words[0] not in ("unit", "scale"):
        return 1
    if len(words) < 2 or not is_name(words[1]) or words[1] in measures or words[1] in scales:
        return 2
    if words[0] == "scale":
        return wrong_scale_column(words, measures, scales)
    ratio = ratio_word(words[2]) if len(words) > 2 else None
    if ratio is None or ratio[0] <= 0:
        return 3
    wrong = wrong_unit_word(words[3:], measures)
    return 0 if wrong is None else wrong + 4


def wrong_scale_column(words, measures, scales):
    """The column of the first wrong word of a line of a scale with a new name, 0 if it is right."""
    if len(words) < 3 or (words[2] not in measures and words[2] not in scales):
        return 3
    factor = ratio_word(words[3]) if len(words) > 3 else None
    if factor is None or factor[0] == 0:
        return 4
    if len(words) < 5 or ratio_word(words[4]) is None:
        return 5
    return 6 if len(words) > 5 else 0


def read_powers(text, measures):
    """The powers that a text of UNITWORDS tells, or the error of its first wrong word."""
    if not isinstance(text, str):
        raise BadText(0, 0)
    return checked_powers(text.split(" "), measures, 0)
