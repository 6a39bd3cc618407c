"""Random formulas for the tests, and what is true of them by the plain way."""

import re
from fractions import Fraction

UNITS = "base m s\nunit km 1000 m\nunit h 3600 s\nunit v 5/18 km h^-1\nunit none 7/3 1\nscale c m 2 1"
WORDS = ("m", "s", "km", "v^2", "m s^-1", "1", "h^-1", "none", "m^0", "km^2 h s^-3")


class Node:
    """A part of an expression; its tokens are set when it is told."""

    def __init__(self, kind, parts, fact=None):
        self.kind = kind
        self.parts = parts
        self.fact = fact
        self.place = self.first = self.last = self.mark = None

    def all_parts(self):
        """This part and all parts that it is made of."""
        found = [self]
        for part in self.parts:
            found += part.all_parts()
        return found


class Mark:
    """A token of a line; its column is set when the line is told."""

    def __init__(self, text):
        self.text = text
        self.column = 0


class Line:
    """A formula: its name, its parameters with their told units, its told unit, its expression."""

    def __init__(self, name, letters, unit, tree):
        self.name = name
        self.letters = letters
        self.unit = unit
        self.tree = tree
        self.number = 0
        self.name_mark = Mark(name)
        self.letter_marks = [Mark(letter) for letter, _ in letters]
        self.unit_marks = [None if words is None else Mark(f"[{words}]") for _, words in letters]
        self.unit_marks.append(None if unit is None else Mark(f"[{unit}]"))

    def marks(self, source=None):
        """The tokens of the line."""
        marks = [self.name_mark]
        if self.letters:
            marks.append(Mark("("))
            for k, mark in enumerate(self.letter_marks):
                marks += [Mark(",")] * (k > 0) + [mark] + [m for m in self.unit_marks[k:k + 1] if m]
            marks += [Mark(")")] + [m for m in self.unit_marks[-1:] if m]
        marks.append(Mark("="))
        told(self.tree, marks, source, 0)
        return marks


def told(node, marks, source, rank):
    """Puts the tokens of a part behind marks, in brackets where its place, told by a rank, asks for them.

    Ranks: 0 an expression, 1 a sum, 2 a term, 3 a factor, 4 an atom.
    """
    own = {"if": 0, "+": 1, "-": 1, "*": 2, "/": 2, "neg": 3, "power": 3}.get(node.kind, 4)
    many = 0
    if own < rank:
        many = 1
    if source is not None and source.random() < 0.12:
        many += 1
    marks += [Mark("(") for _ in range(many)]
    at = len(marks)
    tell_inside(node, marks, source)
    node.first, node.last = marks[at], marks[-1]
    marks += [Mark(")") for _ in range(many)]


def tell_inside(node, marks, source):
    """Puts the tokens of a part, without brackets around it, behind marks."""
    parts = node.parts
    if node.kind == "number":
        node.place = put(marks, node.fact[0])
        if node.fact[1] is not None:
            node.mark = put(marks, f"[{node.fact[1]}]")
    elif node.kind == "letter":
        node.place = put(marks, node.fact[1])
    elif node.kind == "call":
        node.place = put(marks, node.fact)
        for k, part in enumerate(parts):
            put(marks, "," if k else "(")
            told(part, marks, source, 0)
        if parts:
            put(marks, ")")
    elif node.kind == "neg":
        node.place = put(marks, "-")
        told(parts[0], marks, source, 3 if parts[0].kind == "power" else 4)
    elif node.kind == "power":
        told(parts[0], marks, source, 4)
        node.place = put(marks, "^")
        for text in node.fact[0]:
            put(marks, text)
    elif node.kind == "if":
        node.place = put(marks, "if")
        told(parts[0], marks, source, 1)
        node.less = put(marks, "<")
        told(parts[1], marks, source, 1)
        put(marks, "then")
        told(parts[2], marks, source, 0)
        put(marks, "else")
        told(parts[3], marks, source, 0)
    else:
        rank = 1 if node.kind in "+-" else 2
        told(parts[0], marks, source, rank)
        node.place = put(marks, node.kind)
        told(parts[1], marks, source, rank + 1)


def put(marks, text):
    """Puts a token behind marks, and returns it."""
    marks.append(Mark(text))
    return marks[-1]


def laid_out(marks, source=None):
    """The text of tokens, with blanks where there have to be some, and random ones."""
    text = " " * (source.choice((0, 0, 1, 3)) if source else 0)
    for mark in marks:
        joined = text[-1:].isalnum() and mark.text[:1].isalnum()
        text += " " * max(int(joined), source.choice((0, 0, 0, 1, 2)) if source else 0)
        mark.column = len(text) + 1
        text += mark.text
    return text + " " * (source.choice((0, 0, 2)) if source else 0)


class Texts:
    """A random text of formulas over some Units."""

    def __init__(self, source, units, most=5, ifs=True, roots=True, words=WORDS, size=6, letters=3):
        self.source, self.units, self.words = source, units, words
        self.ifs, self.roots = ifs, roots
        self.lines, self.texts = [], []
        for _ in range(source.randint(1, most)):
            if source.random() < 0.2:
                self.texts.append(" " * source.randint(0, 3))
            self.add(self.line(size, letters))
        self.text = "\n".join(self.texts) + source.choice(("", "\n", "\n  "))

    def add(self, line):
        line.number = len(self.texts) + 1
        self.texts.append(laid_out(line.marks(self.source), self.source))
        self.lines.append(line)

    def names(self):
        return [line.name for line in self.lines]

    def new_name(self, taken):
        while True:
            name = self.source.choice("abfgxz") + "".join([self.source.choice("a1z") for _ in
                                                          range(self.source.choice((0, 0, 1, 2, 11)))])
            if name not in taken:
                return name

    def line(self, size, letters):
        source = self.source
        name = self.new_name(self.names())
        given = []
        for _ in range(source.choice((0,) + tuple(range(1, letters + 1)) * 2)):
            letter = self.new_name(self.names() + [name] + [other for other, _ in given])
            given.append((letter, source.choice((None, None, source.choice(self.words)))))
        unit = source.choice((None, source.choice(self.words))) if given else None
        return Line(name, given, unit, self.tree([letter for letter, _ in given], source.randint(1, size)))

    def tree(self, letters, size):
        """A random expression of about so many operations."""
        source = self.source
        if size <= 1:
            return self.leaf(letters)
        kind = source.choice(("+", "-", "*", "/", "neg", "power", "if" if self.ifs else "*", "call"))
        if kind in "+-*/":
            left = source.randint(1, size - 1)
            return Node(kind, [self.tree(letters, left), self.tree(letters, size - left)])
        if kind == "neg":
            return Node("neg", [self.tree(letters, size - 1)])
        if kind == "power":
            return Node("power", [self.tree(letters, size - 1)], self.exponent())
        if kind == "if":
            return Node("if", [self.tree(letters, max(1, size // 4)) for _ in range(4)])
        called = [line for line in self.lines if line.letters]
        if not called:
            return self.leaf(letters)
        line = source.choice(called)
        return Node("call", [self.tree(letters, max(1, (size - 1) // len(line.letters))) for _ in line.letters],
                    line.name)

    def leaf(self, letters):
        source = self.source
        plain = [line.name for line in self.lines if not line.letters]
        kind = source.choice(("number", "letter", "letter", "call"))
        if kind == "letter" and letters:
            index = source.randrange(len(letters))
            return Node("letter", [], (index, letters[index]))
        if kind == "call" and plain:
            return Node("call", [], source.choice(plain))
        text = source.choice(("0", "1", "2", "3", "007", "0.5", "2.25", "10", "4", "16", "0.0"))
        return Node("number", [], (text, source.choice((None, source.choice(self.words)))))

    def exponent(self):
        """(tokens, Fraction) of a random exponent."""
        source = self.source
        top, bottom = source.choice((0, 1, 2, 2, 3)), source.choice((1, 2, 2, 3, 4)) if self.roots else 1
        sign = source.choice(([], [], ["-"]))
        value = Fraction(-top if sign else top, bottom)
        if bottom == 1 and source.random() < 0.7:
            return (sign + [source.choice((str(top), f"0{top}"))], value)
        if bottom == 1 and source.random() < 0.5:
            return (["("] + sign + [str(top), ")"], value)
        many = source.choice((1, 1, 2))
        return (["("] + sign + [str(top * many), "/", str(bottom * many), ")"], value)


class Met(Exception):
    """An error that is met, by its name and its fields."""

    def __init__(self, *fields):
        self.fields = fields


class Worker:
    """Works random formulas out with pairs (exponents, Fraction)."""

    def __init__(self, texts):
        self.units = texts.units
        self.lines = {line.name: line for line in texts.lines}

    def work(self, name, given):
        line = self.lines[name]
        for (_, words), mark, (exponents, _) in zip(line.letters, line.letter_marks, given):
            self.check_unit(words, (line.number, mark.column), exponents)
        value = self.value(line, line.tree, given)
        self.check_unit(line.unit, (line.number, line.name_mark.column), value[0])
        return value

    def check_unit(self, words, place, exponents):
        if words is not None and self.units.exponents_of(words) != exponents:
            raise Met("Unlike", place, self.units.exponents_of(words), exponents)

    def value(self, line, node, given):
        place = (line.number, node.place.column)
        if node.kind == "number":
            words = node.fact[1] or "1"
            size = Fraction(*self.units.size_of(words))
            return (self.units.exponents_of(words), Fraction(node.fact[0]) * size)
        if node.kind == "letter":
            return given[node.fact[0]]
        if node.kind == "if":
            one, other = [self.value(line, part, given) for part in node.parts[:2]]
            if one[0] != other[0]:
                raise Met("Unlike", (line.number, node.less.column), one[0], other[0])
            return self.value(line, node.parts[2 if one[1] < other[1] else 3], given)
        values = [self.value(line, part, given) for part in node.parts]
        if node.kind == "call":
            return self.work(node.fact, values)
        if node.kind == "power":
            return self.power(values[0], node.fact[1], place)
        if node.kind == "neg":
            return (values[0][0], -values[0][1])
        return self.operation(node.kind, values[0], values[1], place)

    def operation(self, kind, one, other, place):
        if kind in "+-":
            if one[0] != other[0]:
                raise Met("Unlike", place, one[0], other[0])
            return (one[0], one[1] + other[1] if kind == "+" else one[1] - other[1])
        if kind == "/" and other[1] == 0:
            raise Met("ByZero", place)
        way = 1 if kind == "*" else -1
        return (tuple([a + way * b for a, b in zip(one[0], other[0])]), one[1] * other[1] ** way)

    def power(self, value, exponent, place):
        exponents, number = value
        if number == 0 and exponent < 0:
            raise Met("ByZero", place)
        if exponent.denominator == 1:
            return (tuple([int(item * exponent) for item in exponents]), number ** int(exponent))
        if number < 0 or any([(item * exponent).denominator > 1 for item in exponents]):
            raise Met("NotPower", place)
        power = number ** exponent.numerator
        roots = [whole_root(part, exponent.denominator) for part in (power.numerator, power.denominator)]
        if None in roots:
            raise Met("NotPower", place)
        return (tuple([int(item * exponent) for item in exponents]), Fraction(*roots))


def whole_root(number, k):
    """The integer whose power k is the number, None if there is none, by halving."""
    low, high = 0, number + 1
    while low < high:
        middle = (low + high) // 2
        if middle ** k < number:
            low = middle + 1
        else:
            high = middle
    return low if low ** k == number else None


class Refused(Exception):
    """A text is wrong: the column, or "deep"."""


class Checker:
    """Reads one line by recursion, and tells the first column at which it is wrong."""

    def __init__(self, text, units, known):
        self.text, self.units, self.known = text, units, known
        self.at, self.open = 0, 0

    def token(self):
        """(kind, text, index) of the next token."""
        at = self.at
        while self.text[at:at + 1] == " ":
            at += 1
        found = re.compile(r"[a-z][a-z0-9]*|[0-9]+(\.[0-9]+)?|[-+*/^()\[\],<=]").match(self.text, at)
        if at == len(self.text):
            return ("end", "", at)
        if found is None:
            return ("wrong", "", at)
        text = found.group(0)
        if text in ("if", "then", "else") or not (text[0].isalnum()):
            return (text, text, at)
        if text[0].isdigit():
            return ("number", text, at)
        return ("name" if len(text) < 13 else "wrong", text, at)

    def take(self, *kinds):
        kind, text, at = self.token()
        if kind not in kinds:
            raise Refused(at + 1)
        self.at = at + len(text)
        return text

    def next_is(self, *kinds):
        return self.token()[0] in kinds

    def line(self):
        """Returns (name, parameters), or None for a line without tokens."""
        if self.next_is("end"):
            return None
        at = self.token()[2]
        name = self.take("name")
        if name in self.known:
            raise Refused(at + 1)
        letters = []
        if self.next_is("("):
            self.take("(")
            while True:
                at = self.token()[2]
                letter = self.take("name")
                if letter in self.known or letter == name or letter in letters:
                    raise Refused(at + 1)
                letters.append(letter)
                self.unit()
                if self.take(",", ")") == ")":
                    break
            self.unit()
        self.take("=")
        self.letters = letters
        self.expression()
        self.take("end")
        return (name, letters)

    def unit(self):
        if not self.next_is("["):
            return
        self.take("[")
        end = self.text.find("]", self.at)
        words = self.text[self.at:len(self.text) if end < 0 else end].split(" ")
        for k, word in enumerate(words):
            good = re.fullmatch(r"([a-z][a-z0-9]{0,11})(\^(-?[1-9][0-9]?|0))?", word)
            good = good and good.group(1) in self.units.measures and "1" not in words[:k]
            if not good and not (word == "1" and k == 0):
                raise Refused(self.at + 1 + len(" ".join(words[:k])) + (k > 0))
            if k > 0 and words[0] == "1":
                raise Refused(self.at + 1 + len(" ".join(words[:k])) + 1)
        if end < 0:
            raise Refused(len(self.text) + 1)
        self.at = end + 1

    def opened(self):
        self.open += 1
        if self.open > 50:
            raise Refused("deep")

    def expression(self):
        if not self.next_is("if"):
            return self.sum()
        self.opened()
        self.take("if")
        self.sum()
        self.take("<")
        self.sum()
        self.take("then")
        self.expression()
        self.take("else")
        self.expression()
        self.open -= 1

    def sum(self):
        self.term()
        while self.next_is("+", "-"):
            self.take("+", "-")
            self.term()

    def term(self):
        self.factor()
        while self.next_is("*", "/"):
            self.take("*", "/")
            self.factor()

    def factor(self):
        if self.next_is("-"):
            self.take("-")
        self.atom()
        if self.next_is("^"):
            self.take("^")
            self.exponent()

    def digits(self):
        if self.next_is("number") and "." in self.token()[1]:
            raise Refused(self.token()[2] + 1)
        return self.take("number")

    def exponent(self):
        bracket = self.next_is("(")
        if bracket:
            self.take("(")
        if self.next_is("-"):
            self.take("-")
        self.digits()
        if bracket and self.next_is("/"):
            self.take("/")
            at = self.token()[2]
            if int(self.digits()) == 0:
                raise Refused(at + 1)
        if bracket:
            self.take(")")

    def atom(self):
        kind, text, at = self.token()
        if kind == "number":
            self.take("number")
            self.unit()
        elif kind == "(":
            self.opened()
            self.take("(")
            self.expression()
            self.take(")")
            self.open -= 1
        else:
            self.take("name")
            if text not in self.letters and text not in self.known:
                raise Refused(at + 1)
            if text in self.known and self.known[text]:
                self.call(self.known[text])

    def call(self, many):
        if self.next_is("("):
            self.opened()
        self.take("(")
        for k in range(many):
            self.expression()
            self.take(")" if k == many - 1 else ",")
        self.open -= 1


def first_error(text, units):
    """The error of a text of formulas: None, "deep", or the pair (line, column)."""
    known = {}
    for number, line in enumerate(text.split("\n"), 1):
        try:
            found = Checker(line, units, known).line()
        except Refused as refused:
            return "deep" if refused.args[0] == "deep" else (number, refused.args[0])
        if found is not None:
            known[found[0]] = len(found[1])
    return None
