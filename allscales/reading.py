"""Reading a line of a formula: its tokens one by one, the head of the line, and exponents."""

from allscales.errors import BadText
from allscales.exact import lowest
from allscales.steps import Letter
from allscales.tokens import tokens_of, whole_of
from allscales.words import exponents_in, powers_of, size_in, wrong_unit_word


class Reader:
    """The tokens of a line, read from the left to the right."""

    def __init__(self, text, number, units):
        self.length = len(text)
        self.number = number
        self.units = units
        self.tokens = tokens_of(text)
        self.taken = 0

    def look(self):
        """The next token."""
        return self.tokens[self.taken]

    def take(self):
        """The next token, which is then behind."""
        token = self.tokens[self.taken]
        self.taken += 1
        return token

    def refuse(self):
        """Raises the error that is due if the next token is wrong."""
        raise BadText(self.number, self.look().first)

    def expect(self, kind):
        """The next token, which is then behind, or the error that is due if it is of another kind."""
        if self.look().kind != kind:
            self.refuse()
        return self.take()

    def unit_words(self):
        """The powers of the UNITWORDS of the next token, a "[", which is then behind."""
        token = self.take()
        words = token.text.split(" ")
        wrong = wrong_unit_word(words, self.units.measures)
        if wrong is not None:
            raise BadText(self.number, token.first + 1 + sum([len(word) + 1 for word in words[:wrong]]))
        if token.last > self.length:
            raise BadText(self.number, self.length + 1)
        return powers_of(words)

    def exponents_of_words(self, powers):
        """The exponents of UNITWORDS."""
        return exponents_in(powers, self.units.measures, len(self.units.base))

    def size_of_words(self, powers):
        """The size of UNITWORDS."""
        return size_in(powers, self.units.measures)

    def told_unit(self):
        """The pair (exponents, column of its sign) of a told unit, which is then behind; None if none comes."""
        token = self.look()
        if token.kind != "[":
            return None
        return (self.exponents_of_words(self.unit_words()), token.first)


def read_head(reader, known):
    """(letters, result): what stands ahead of the sign = and this sign; known has the earlier formulas."""
    name = reader.look()
    if name.kind != "name" or name.text in known:
        reader.refuse()
    reader.take()
    letters = []
    unit = None
    if reader.look().kind == "(":
        reader.take()
        letters.append(read_letter(reader, known, name, letters))
        while reader.look().kind == ",":
            reader.take()
            letters.append(read_letter(reader, known, name, letters))
        reader.expect(")")
        unit = reader.told_unit()
    reader.expect("=")
    return (letters, Letter(name.text, (reader.number, name.first), unit))


def read_letter(reader, known, name, letters):
    """The parameter that comes, behind some others."""
    token = reader.look()
    taken = [name.text] + [letter.name for letter in letters]
    if token.kind != "name" or token.text in known or token.text in taken:
        reader.refuse()
    reader.take()
    return Letter(token.text, (reader.number, token.first), reader.told_unit())


def read_decimal(text):
    """The ratio that a NUMBER tells."""
    whole, point, part = text.partition(".")
    return lowest(whole_of(whole + part), whole_of("1" + "0" * len(part)))


def read_exponent(reader):
    """(ratio, last): the exponent that comes behind a sign ^, and the column of its last sign."""
    if reader.look().kind != "(":
        top = read_signed(reader)
        return ((top[0], 1), top[1])
    reader.take()
    top = read_signed(reader)
    bottom = 1
    if reader.look().kind == "/":
        reader.take()
        if is_zero_row(reader.look().text):
            reader.refuse()
        bottom = read_digits(reader)[0]
    return (lowest(top[0], bottom), reader.expect(")").last)


def is_zero_row(text):
    """Whether a text has zeros alone."""
    return text.strip("0") == ""


def read_signed(reader):
    """(integer, last): the digits that come, perhaps with a sign - ahead, and the column of the last one."""
    if reader.look().kind != "-":
        return read_digits(reader)
    reader.take()
    number, last = read_digits(reader)
    return (-number, last)


def read_digits(reader):
    """(integer, last): the NUMBER without a point that comes, and the column of its last sign."""
    token = reader.look()
    if token.kind != "number" or "." in token.text:
        reader.refuse()
    reader.take()
    return (whole_of(token.text), token.last)
