"""What is true of the exponents in random formulas, by the plain way."""

from fractions import Fraction

from allscales.matrices import Answer, ratio_answer, whole_answer
from formula_model import Line, Node, Texts
from support import fraction, pair

MANY_BASES = {1: "base m\nunit km 1000 m\nunit q 3 m^2", 2: "base m s\nunit km 1000 m\nunit v 1/2 m s^-1",
              3: "base m s kg\nunit n 1 kg m s^-2\nunit km 1000 m\nunit w 2 m^2 s^-3"}
MANY_WORDS = {1: ("m", "km", "q", "1", "m^2", "m^-1", "m^4"), 2: ("m", "s", "v", "1", "m^2", "m s^-2", "v^4"),
              3: ("m", "s", "kg", "n", "1", "w", "m^2 s^2", "kg^4")}


class Sum:
    """A sum of multiples of unknowns, and of told exponents."""

    def __init__(self, multiples, told):
        self.multiples = {key: Fraction(many) for key, many in multiples.items()}
        self.told = tuple([Fraction(item) for item in told])

    def add(self, other, way=1):
        multiples = dict(self.multiples)
        for key, many in other.multiples.items():
            multiples[key] = multiples.get(key, 0) + way * many
        return Sum(multiples, [a + way * b for a, b in zip(self.told, other.told)])

    def times(self, many):
        return Sum({key: many * item for key, item in self.multiples.items()}, [many * item for item in self.told])


class Demands:
    """The demands of a formula: triples (place, Sum, Sum), and the keys of its unknowns in order."""

    def __init__(self, units, line, generals, roots):
        self.units, self.line, self.generals, self.roots = units, line, generals, roots
        parts = line.tree.all_parts()
        calls = sorted([part for part in parts if part.kind == "call"], key=lambda part: part.place.column)
        powers = sorted([part for part in parts if part.kind == "power"], key=lambda part: part.place.column)
        self.keys = [("letter", k) for k in range(len(line.letters))]
        for part in calls:
            self.keys += [("row", part.place.column, k) for k in range(len(generals[part.fact].basis))]
        if not roots:
            self.keys += [("power", part.place.column) for part in powers if part.fact[1].denominator > 1]
        self.inside = []
        result = self.exponents(line.tree)
        self.result = result
        self.all = []
        for k, (_, words) in enumerate(line.letters):
            if words is not None:
                self.all.append(((line.number, line.letter_marks[k].column), Sum({("letter", k): 1}, self.none()),
                                 self.told(words)))
        # The sort is stable, so that what a call demands stays in the order of its arguments.
        self.all += sorted(self.inside, key=lambda demand: demand[0][1])
        if line.unit is not None:
            self.all.append(((line.number, line.name_mark.column), result, self.told(line.unit)))

    def none(self):
        return (0,) * len(self.units.base)

    def told(self, words):
        return Sum({}, self.units.exponents_of(words))

    def demand(self, mark, one, other):
        self.inside.append(((self.line.number, mark.column), one, other))

    def copied(self, part, k):
        general = self.generals[part.fact]
        multiples = {("row", part.place.column, at): fraction(row[k]) for at, row in enumerate(general.basis)}
        return Sum(multiples, [fraction(item) for item in general.spots[k]])

    def exponents(self, part):
        """The exponents of a part, a Sum."""
        if part.kind == "number":
            return self.told(part.fact[1] or "1")
        if part.kind == "letter":
            return Sum({("letter", part.fact[0]): 1}, self.none())
        inside = [self.exponents(other) for other in part.parts]
        if part.kind == "call":
            for k, one in enumerate(inside):
                self.demand(part.place, one, self.copied(part, k))
            return self.copied(part, len(inside))
        if part.kind == "neg":
            return inside[0]
        if part.kind == "power":
            exponent = part.fact[1]
            if exponent.denominator == 1 or self.roots:
                return inside[0].times(exponent)
            unknown = Sum({("power", part.place.column): 1}, self.none())
            self.demand(part.place, unknown.times(exponent.denominator), inside[0].times(exponent.numerator))
            return unknown
        if part.kind == "if":
            self.demand(part.less, inside[0], inside[1])
            self.demand(part.place, inside[2], inside[3])
            return inside[2]
        if part.kind in "+-":
            self.demand(part.place, inside[0], inside[1])
            return inside[0]
        return inside[0].add(inside[1], 1 if part.kind == "*" else -1)

    def rows(self):
        """Triples (place, row, exponents) of Fractions."""
        found = []
        for place, one, other in self.all:
            gap = one.add(other, -1)
            found.append((place, [gap.multiples.get(key, Fraction(0)) for key in self.keys],
                          [-item for item in gap.told]))
        return found

    def answered(self, rows, place, units=None):
        """Whether some rows have an answer in one base unit, perhaps with given exponents of parameters and result."""
        table = [(row, exponents[place]) for _, row, exponents in rows]
        if units is not None:
            for k in range(len(self.line.letters)):
                table.append(([Fraction(int(key == ("letter", k))) for key in self.keys], fraction(units[k][place])))
            row = [self.result.multiples.get(key, Fraction(0)) for key in self.keys]
            table.append((row, fraction(units[-1][place]) - self.result.told[place]))
        return answer_of([row for row, _ in table], [right for _, right in table], self.roots) is not None

    def united(self, units):
        """Whether exponents of the parameters and of the result are among the units."""
        return all([self.answered(self.rows(), place, units) for place in range(len(self.units.base))])

    def some_units(self, source):
        """Random units of the formula, None if it has none."""
        columns = []
        for place in range(len(self.units.base)):
            rows = self.rows()
            found = answer_of([row for _, row, _ in rows] or [[0] * len(self.keys)],
                              [right[place] for _, _, right in rows] or [0], self.roots)
            if found is None:
                return None
            values = [fraction(item) for item in found.spot][:len(self.keys)]
            for row in found.basis:
                many = source.choice((0, 0, 1, -1, 2)) if not self.roots else Fraction(source.randint(-3, 3), 2)
                values = [a + many * b for a, b in zip(values, row)]
            column = values[:len(self.line.letters)]
            column.append(self.result.told[place] + sum([self.result.multiples.get(key, 0) * value
                                                         for key, value in zip(self.keys, values)]))
            columns.append(column)
        return tuple([tuple([told(column[k], self.roots) for column in columns])
                      for k in range(len(self.line.letters) + 1)])


def told(number, roots):
    """A Fraction as the package tells an exponent."""
    return pair(number) if roots else int(number)


def answer_of(rows, right, roots):
    """The Answer of equations in integers or in ratios, None if there is none."""
    wide = [list(row) + [0] for row in rows]
    if not rows:
        wide, right = [[0]], [0]
    if roots:
        found = ratio_answer([[pair(item) for item in row] for row in wide], [pair(item) for item in right])
    else:
        found = whole_answer([[int(item) for item in row] for row in wide], [int(item) for item in right])
    return found if isinstance(found, Answer) else None


class United(Texts):
    """A random text of formulas whose expressions are made so that many of them have units."""

    def line(self, size, letters):
        source = self.source
        name = self.new_name(self.names())
        given = []
        for _ in range(source.choice((0, 1, 1, 2, 2, 3))):
            letter = self.new_name(self.names() + [name] + [other for other, _ in given])
            given.append((letter, source.choice((None, None, None, source.choice(self.words)))))
        names = [letter for letter, _ in given]
        unit = source.choice((None, None, source.choice(self.words))) if given else None
        return Line(name, given, unit, self.grown(names, source.randint(1, size)))

    def grown(self, letters, size):
        """An expression: now and then with two operands that are like each other."""
        source = self.source
        if size > 2 and source.random() < 0.4:
            one = self.grown(letters, size // 2)
            other = self.like(one, letters)
            kind = source.choice("+-") if not self.ifs or source.random() < 0.8 else "if"
            if kind == "if":
                return Node("if", [self.leaf(letters), Node("number", [], ("1", None)), one, other])
            return Node(kind, [one, other])
        if size > 1:
            kind = source.choice(("*", "*", "/", "neg", "power", "call"))
            if kind in "*/":
                return Node(kind, [self.grown(letters, size // 2), self.grown(letters, size - size // 2)])
            if kind == "neg":
                return Node("neg", [self.grown(letters, size - 1)])
            if kind == "power":
                return Node("power", [self.grown(letters, size - 1)], self.exponent())
            called = [line for line in self.lines if line.letters]
            if called:
                line = source.choice(called)
                return Node("call", [self.grown(letters, max(1, size // 2)) for _ in line.letters], line.name)
        return self.leaf(letters)

    def like(self, part, letters):
        """A part that may well have the exponents of another one."""
        source = self.source
        kind = source.random()
        if kind < 0.5 or not letters:
            return Node("*", [Node("number", [], ("2", None)), self.copy(part)])
        if kind < 0.8:
            index = source.randrange(len(letters))
            return Node("letter", [], (index, letters[index]))
        return self.grown(letters, 2)

    def copy(self, part):
        return Node(part.kind, [self.copy(other) for other in part.parts], part.fact)
