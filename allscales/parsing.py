"""Expressions of formulas: from their tokens to steps, without recursion."""

from allscales.errors import TooDeep
from allscales.exact import ratio_product
from allscales.reading import Reader, read_decimal, read_exponent, read_head
from allscales.steps import Formula, Step

MOST_OPEN = 50
RANKS = {"+": 1, "-": 1, "*": 2, "/": 2}


class Waiting:
    """What waits for values behind it: an operation, or what is open and still has to end.

    kind is "+", "-", "*", "/", "neg", or for what is open "line", "(" or "call", and for an if
    what has been read last of it: "if", "less", "then" or "else". called and given are the formula
    of a call and how many arguments have ended, jumps the steps of an if that may go on elsewhere.
    """

    def __init__(self, kind, column):
        self.kind = kind
        self.column = column
        self.called = None
        self.given = 0
        self.jumps = []


class Parser:
    """The expression of a formula, read token by token.

    wanted tells what may come next: "expression", "factor" or "atom" where a value has to begin,
    "power" behind an atom without exponent, "more" behind one with it. spans has the columns of the
    values that wait, with the brackets around them.
    """

    def __init__(self, reader, letters, known):
        self.reader = reader
        self.indices = {letter.name: index for index, letter in enumerate(letters)}
        self.known = known
        self.steps = []
        self.spans = []
        self.waiting = [Waiting("line", 0)]
        self.opened = 0
        self.wanted = "expression"

    def read(self):
        """The steps of the expression, which goes to the end of the line."""
        while self.waiting:
            if self.wanted in ("expression", "factor", "atom"):
                self.read_operand()
            else:
                self.read_behind()
        return self.steps

    def read_operand(self):
        """Reads the next token, where a value has to begin."""
        reader = self.reader
        kind = reader.look().kind
        if kind == "if" and self.wanted == "expression":
            self.begin("if", reader.look().first)
            reader.take()
            self.wanted = "factor"
        elif kind == "-" and self.wanted != "atom":
            self.waiting.append(Waiting("neg", reader.take().first))
            self.wanted = "atom"
        elif kind == "(":
            self.begin("(", reader.look().first)
            reader.take()
        elif kind == "number":
            self.read_number()
        elif kind == "name":
            self.read_name()
        else:
            reader.refuse()

    def begin(self, kind, column):
        """Opens a bracket or an if, and returns what waits for its end."""
        if self.opened == MOST_OPEN:
            raise TooDeep(MOST_OPEN)
        waiting = Waiting(kind, column)
        self.opened += 1
        self.waiting.append(waiting)
        self.wanted = "expression"
        return waiting

    def end(self):
        """Takes what has been opened last, which ends."""
        self.opened -= 1
        return self.waiting.pop()

    def put(self, kind, column, fact, first, last):
        """Puts a step for a part of the expression, which is a value then, and returns it."""
        step = Step(kind, (self.reader.number, column), fact, first, last)
        self.steps.append(step)
        self.spans.append((first, last))
        return step

    def read_number(self):
        """Reads a number and its unit words."""
        reader = self.reader
        token = reader.take()
        number = read_decimal(token.text)
        last = token.last
        unit = None
        bracket = reader.look()
        if bracket.kind == "[":
            powers = reader.unit_words()
            number = ratio_product(number, reader.size_of_words(powers))
            unit = (reader.exponents_of_words(powers), bracket.first)
            last = bracket.last
        step = self.put("number", token.first, number, token.first, last)
        step.unit = unit
        self.wanted = "power"

    def read_name(self):
        """Reads the name of a parameter or of an earlier formula, and the bracket that begins a call."""
        reader = self.reader
        token = reader.look()
        called = self.known.get(token.text)
        if token.text not in self.indices and called is None:
            reader.refuse()
        reader.take()
        if called is not None and called.letters != []:
            if reader.look().kind != "(":
                reader.refuse()
            waiting = self.begin("call", token.first)
            waiting.called = called
            reader.take()
        else:
            kind = "letter" if called is None else "call"
            fact = self.indices[token.text] if called is None else called
            self.put(kind, token.first, fact, token.first, token.last)
            self.wanted = "power"

    def read_behind(self):
        """Reads the next token behind a value."""
        kind = self.reader.look().kind
        if kind == "^" and self.wanted == "power":
            self.read_power()
            return
        if self.waiting[-1].kind == "neg":
            self.put_operation()
        if kind in RANKS:
            self.put_operations(RANKS[kind])
            self.waiting.append(Waiting(kind, self.reader.take().first))
            self.wanted = "factor"
        else:
            self.put_operations(1)
            self.read_end()

    def read_power(self):
        """Reads an exponent."""
        column = self.reader.take().first
        ratio, last = read_exponent(self.reader)
        first = self.spans.pop()[0]
        self.put("power", column, ratio, first, last)
        self.wanted = "more"

    def put_operations(self, rank):
        """Puts the operations that wait and go ahead of one of this rank."""
        while self.waiting[-1].kind in RANKS and RANKS[self.waiting[-1].kind] >= rank:
            self.put_operation()

    def put_operation(self):
        """Puts the operation that waits."""
        waiting = self.waiting.pop()
        first, last = self.spans.pop()
        if waiting.kind == "neg":
            first = waiting.column
        else:
            first = self.spans.pop()[0]
        self.put(waiting.kind, waiting.column, None, first, last)

    def read_end(self):
        """Reads the token that ends an expression, or a side of a comparison."""
        # An if goes as far as its second branch, so it ends with what ends that one.
        while self.waiting[-1].kind == "else":
            self.end_if()
        waiting = self.waiting[-1]
        kind = self.reader.look().kind
        if waiting.kind == "line" and kind == "end":
            self.waiting.pop()
        elif waiting.kind == "(" and kind == ")":
            self.end()
            self.spans[-1] = (waiting.column, self.reader.take().last)
            self.wanted = "power"
        elif waiting.kind == "call" and kind in (",", ")"):
            self.end_argument(waiting, kind)
        elif waiting.kind == "if" and kind == "<":
            self.read_less(waiting)
        elif waiting.kind == "less" and kind == "then":
            self.begin_branch(waiting, "then")
        elif waiting.kind == "then" and kind == "else":
            self.begin_branch(waiting, "else")
        else:
            self.reader.refuse()

    def end_argument(self, waiting, kind):
        """Reads the sign behind an argument of a call."""
        waiting.given += 1
        many = len(waiting.called.letters)
        if (kind == ")") != (waiting.given == many):
            self.reader.refuse()
        token = self.reader.take()
        self.wanted = "expression"
        if kind == ")":
            self.end()
            for _ in range(many):
                self.spans.pop()
            self.put("call", waiting.column, waiting.called, waiting.column, token.last)
            self.wanted = "power"

    def read_less(self, waiting):
        """Reads the sign of a comparison."""
        waiting.kind = "less"
        waiting.jumps.append(self.jump_at("less"))
        self.wanted = "factor"

    def jump_at(self, kind):
        """A step that may go on elsewhere, at the next token, which is then behind."""
        column = self.reader.take().first
        return Step(kind, (self.reader.number, column), None, column, column)

    def begin_branch(self, waiting, kind):
        """Reads the word that begins a branch of an if."""
        jump = self.jump_at("skip")
        if kind == "then":
            self.spans.pop()
            self.spans.pop()
            self.steps.append(waiting.jumps[0])
        else:
            self.steps.append(jump)
            waiting.jumps.append(jump)
            less = waiting.jumps[0]
            less.fact = len(self.steps)
        waiting.kind = kind
        self.wanted = "expression"

    def end_if(self):
        """Ends an if."""
        waiting = self.end()
        last = self.spans.pop()[1]
        self.spans.pop()
        skip = waiting.jumps[1]
        skip.fact = len(self.steps)
        self.put("if", waiting.column, None, waiting.column, last)


def read_formula(text, number, known, units):
    """The formula of the line with this number, None if it says nothing; known has the earlier ones by name."""
    reader = Reader(text, number, units)
    if reader.look().kind == "end":
        return None
    letters, result = read_head(reader, known)
    return Formula(letters, result, Parser(reader, letters, known).read())
