"""Words of texts: names, ratios, and the words of units."""

from allscales.errors import BadText, NoUnit, TooLarge
from allscales.exact import ratio_power, ratio_product
from allscales.ratios import DIGITS, ratio_of

LETTERS = "abcdefghijklmnopqrstuvwxyz"
LONGEST_NAME = 12


def lines_of(text):
    """The lines of a text; a line feed at its end ends the last one."""
    lines = text.split("\n")
    if lines[-1] == "":
        return lines[:-1]
    return lines


def is_name(text):
    """Whether a text is a name."""
    if text == "" or len(text) > LONGEST_NAME or text[0] not in LETTERS:
        return False
    return all([sign in LETTERS or sign in DIGITS for sign in text])


def ratio_word(word):
    """The ratio that a word tells, None if it tells none."""
    try:
        return ratio_of(word)
    except (BadText, TooLarge):
        return None


def is_exponent(text):
    """Whether a text is an integer from -99 to 99 as it stands behind a name."""
    digits = text[1:] if text.startswith("-") else text
    if len(digits) not in (1, 2) or not all([sign in DIGITS for sign in digits]):
        return False
    return text == "0" or digits[0] != "0"


def named_power(word):
    """The pair (name, exponent) of a word NAME or NAME^K, None for other words."""
    name, sign, exponent = word.partition("^")
    if not is_name(name):
        return None
    if sign == "":
        return (name, 1)
    if not is_exponent(exponent):
        return None
    return (name, int(exponent))


def wrong_names_column(words, head, most):
    """The column of the first wrong word of a line: head, and from one to so many names, no two alike; 0 if right."""
    if words[0] != head:
        return 1
    names = words[1:]
    if names == []:
        return 2
    for at, name in enumerate(names):
        if at == most or not is_name(name) or name in names[:at]:
            return at + 2
    return 0


def wrong_unit_word(words, measures):
    """The index of the first wrong one of UNITWORDS, None if they are right.

    measures is a dict of all names that may stand there. If there are no words, the first one is missing.
    """
    if words == []:
        return 0
    if words[0] == "1":
        return 1 if len(words) > 1 else None
    for at, word in enumerate(words):
        told = named_power(word)
        if told is None or told[0] not in measures:
            return at
    return None


def checked_powers(words, measures, ahead):
    """The powers that UNITWORDS tell, or the error of their first wrong word; so many words stand ahead of them."""
    wrong = wrong_unit_word(words, measures)
    if wrong is None:
        return powers_of(words)
    told = named_power(words[wrong])
    if told is not None and words[0] != "1":
        raise NoUnit(told[0])
    raise BadText(1, ahead + wrong + 1)


def powers_of(words):
    """The dict from the names in UNITWORDS, which are right, to the sums of their exponents."""
    powers = {}
    if words != ["1"]:
        for word in words:
            name, exponent = named_power(word)
            powers[name] = powers.get(name, 0) + exponent
    return powers


def exponents_in(powers, measures, many):
    """The exponents of a product of powers; measures tells (exponents, size) of each name, many the base units."""
    total = [0] * many
    for name, power in powers.items():
        total = [old + power * new for old, new in zip(total, measures[name][0])]
    return tuple(total)


def size_in(powers, measures):
    """The size of a product of powers, with measures as in exponents_in."""
    size = (1, 1)
    for name, power in powers.items():
        size = ratio_product(size, ratio_power(measures[name][1], power))
    return size
