"""Tokens of the lines of formulas."""

from allscales.exact import whole_power
from allscales.ratios import DIGITS
from allscales.words import LETTERS, LONGEST_NAME

SIGNS = "+-*/^()],<="
KEYWORDS = ("if", "then", "else")
# Python refuses to read integers that are only a little longer than what callers may tell.
BLOCK = 1000


class Token:
    """A token and the columns of its first and its last sign.

    kind is the sign itself, or "name", "if", "then", "else", "number", "wrong" for what is no
    token, or "end" for the end of the line. A "[" goes to the next "]", or behind the end of the
    line, and its text is what stands between.
    """

    def __init__(self, kind, text, first, last):
        self.kind = kind
        self.text = text
        self.first = first
        self.last = last


def tokens_of(line):
    """The tokens of a line, the end of the line behind them."""
    tokens = []
    at = 0
    while at < len(line):
        if line[at] == " ":
            at += 1
        else:
            tokens.append(token_at(line, at))
            at = tokens[-1].last
    tokens.append(Token("end", "", len(line) + 1, len(line) + 1))
    return tokens


def token_at(line, at):
    """The token that begins at an index of a line."""
    sign = line[at]
    kind = "wrong"
    end = at + 1
    if sign in LETTERS:
        end = end_of(line, at, LETTERS + DIGITS)
        kind = word_kind(line[at:end])
    elif sign in DIGITS:
        end = number_end(line, at)
        kind = "number"
    elif sign in SIGNS:
        kind = sign
    elif sign == "[":
        closing = line.find("]", at)
        end = len(line) + 1 if closing < 0 else closing + 1
        return Token("[", line[at + 1:end - 1], at + 1, end)
    return Token(kind, line[at:end], at + 1, end)


def end_of(line, at, signs):
    """The index behind the row of some signs that begins at an index of a line."""
    while at < len(line) and line[at] in signs:
        at += 1
    return at


def word_kind(word):
    """The kind of token that a row of letters and digits is."""
    if word in KEYWORDS:
        return word
    return "name" if len(word) <= LONGEST_NAME else "wrong"


def number_end(line, at):
    """The index behind the number that begins at an index of a line."""
    point = end_of(line, at, DIGITS)
    if line[point:point + 1] == ".":
        end = end_of(line, point + 1, DIGITS)
        if end > point + 1:
            return end
    return point


def whole_of(digits):
    """The integer that a row of digits tells."""
    number = 0
    for start in range(0, len(digits), BLOCK):
        block = digits[start:start + BLOCK]
        number = number * whole_power(10, len(block)) + int(block)
    return number
