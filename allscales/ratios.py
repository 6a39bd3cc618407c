"""Exact fractions: their texts and their roots."""

from allscales.errors import BadNumber, BadText, TooLarge
from allscales.exact import as_ratio, is_whole, is_ratio, lowest, whole_power

DIGITS = "0123456789"
MOST_DIGITS = 4000
MOST_ROOT = 60


def ratio_of(text):
    """The ratio of a text such as -6/4."""
    if not isinstance(text, str):
        raise BadText(0, 0)
    column = wrong_column(text)
    if column > 0:
        raise BadText(1, column)
    top, slash, bottom = text.partition("/")
    for digits in (top.lstrip("-"), bottom):
        if len(digits) > MOST_DIGITS:
            raise TooLarge("digits", len(digits), MOST_DIGITS)
    if slash == "":
        return (int(top), 1)
    if int(bottom) == 0:
        raise BadText(1, len(top) + 2)
    return lowest(int(top), int(bottom))


def wrong_column(text):
    """The first column at which no text of a ratio goes on as this one does; 0 if the text is whole."""
    start = 1 if text.startswith("-") else 0
    end = digits_end(text, start)
    if end > start and end < len(text) and text[end] == "/":
        start = end + 1
        end = digits_end(text, start)
    if end == start or end < len(text):
        return end + 1
    return 0


def digits_end(text, start):
    """The index behind the row of digits that begins at start."""
    end = start
    while end < len(text) and text[end] in DIGITS:
        end += 1
    return end


def ratio_text(ratio):
    """The shortest text of a ratio."""
    if not is_ratio(ratio):
        raise BadNumber("ratio", ratio)
    top, bottom = as_ratio(ratio)
    many = max(digits_of(top), digits_of(bottom))
    if many > MOST_DIGITS:
        raise TooLarge("digits", many, MOST_DIGITS)
    return str(top) if bottom == 1 else f"{top}/{bottom}"


def digits_of(number):
    """How many digits an integer has."""
    # Python refuses str(..) of integers that are only a little longer than the limit here.
    block = 10 ** 64
    left = abs(number)
    many = 0
    while left >= block:
        left = left // block
        many += 64
    return many + len(str(left))


def root_of(ratio, k):
    """The ratio from 0 on whose power k is the ratio, None if there is none."""
    if not is_ratio(ratio) or as_ratio(ratio)[0] < 0:
        raise BadNumber("ratio", ratio)
    if not is_whole(k) or k < 1 or k > MOST_ROOT:
        raise BadNumber("root", k)
    return ratio_root(as_ratio(ratio), k)


def ratio_root(ratio, k):
    """As root_of, for a pair in lowest terms and any k from 1 on."""
    top = whole_root(ratio[0], k)
    if top is None:
        return None
    bottom = whole_root(ratio[1], k)
    if bottom is None:
        return None
    return (top, bottom)


def whole_root(number, k):
    """The integer from 0 on whose power k is the number, None if there is none."""
    root = floor_root(number, k)
    return root if whole_power(root, k) == number else None


def floor_root(number, k):
    """The greatest integer whose power k is at most the number, which is from 0 on."""
    if number < 2 or k == 1:
        return number
    # Newton's steps fall from a start above the root until they have reached it.
    guess = 1 << (number.bit_length() // k + 1)
    better = newton_step(number, k, guess)
    while better < guess:
        guess = better
        better = newton_step(number, k, guess)
    return guess


def newton_step(number, k, guess):
    """The next guess for the root k of a number."""
    return ((k - 1) * guess + number // whole_power(guess, k - 1)) // k
