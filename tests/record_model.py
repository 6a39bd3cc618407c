"""Records for the tests, and what is true of them by the plain way."""

from fractions import Fraction

from allscales.matrices import Answer, kernel, ratio_answer, smith
from support import fraction, in_other_terms, pair
from test_hanging import dot, some_letters


def columns(rows):
    return [list(column) for column in zip(*rows)]


def product(numbers, powers):
    """The product of numbers to integer powers."""
    total = Fraction(1)
    for number, power in zip(numbers, powers):
        total *= fraction(number) ** power
    return total


def groups_at(exponents, inputs):
    """The products of the inputs to the powers of the groups of the basis, as Fractions."""
    return tuple([product(inputs, row) for row in kernel(columns(exponents))])


def orbits_of(exponents, points):
    """The tuples of the indices of points of one orbit."""
    found = {}
    for k, point in enumerate(points):
        found.setdefault(groups_at(exponents, point), []).append(k)
    return tuple([tuple(orbit) for orbit in found.values()])


def powers_to(exponents, result):
    """Ratios whose multiples of the letters' exponents add up to result, None if there are none."""
    found = ratio_answer(columns(exponents), result)
    return [fraction(item) for item in found.spot] if isinstance(found, Answer) else None


class Exact:
    """A real number told by its sign and by the power k, not the least one, of its size."""

    def __init__(self, sign, k, size):
        self.sign, self.k, self.size = sign, k, Fraction(size)

    def same(self, told):
        """Whether a power value is this number."""
        sign, k, size = told
        if sign != self.sign:
            return False
        return sign == 0 or fraction(size) ** self.k == self.size ** k


def due_at(exponents, result, start, value, inputs):
    """The value at inputs of the orbit of start, an Exact."""
    powers = powers_to(exponents, result)
    value = fraction(value)
    if powers is None or value == 0:
        return Exact(0, 1, 0)
    k = 1
    for power in powers:
        k = k * power.denominator
    size = abs(value) ** k
    for old, new, power in zip(start, inputs, powers):
        size *= (fraction(new) / fraction(old)) ** int(power * k)
    return Exact(1 if value > 0 else -1, k, size)


def fits_limits(exponents):
    """Whether letters are as callers may pass them with records."""
    items = [row[at] for at, row in enumerate(smith(exponents).middle[:len(exponents[0])])]
    return max(items) <= 12 and max([abs(item) for row in kernel(columns(exponents)) for item in row] + [0]) <= 12


def letters_for(source, most=5, wide=3):
    """Random exponents of letters as callers may pass them."""
    while True:
        exponents = some_letters(source, most, wide)
        if fits_limits(exponents):
            return exponents


def result_for(source, exponents, roots=True):
    """Random exponents of a value that are a sum of ratio multiples of those of the letters."""
    many = source.choice((1, 1, 2, 3)) if roots else 1
    while True:
        multiples = [source.randint(-3, 3) for _ in exponents]
        total = [dot(multiples, column) for column in columns(exponents)]
        if all([item % many == 0 for item in total]):
            return tuple([item // many for item in total])


def some_point(source, many, limit=9):
    return tuple([Fraction(source.randint(1, limit), source.randint(1, limit)) for _ in range(many)])


def moved(source, exponents, point, steps):
    """The point changed by the steps, Fractions, one for each base unit."""
    return tuple([number * product([pair(step) for step in steps], row) for number, row in zip(point, exponents)])


class Planted:
    """Measurements of a covariant rule whose roots come out: in orbits, row by row.

    Steps are powers of 2 ** 6 and 3 ** 6, and so on, so that all roots that may come up to the
    third, the second and the sixth are ratios.
    """

    def __init__(self, source, exponents, result, many, orbits):
        self.exponents, self.result = exponents, result
        starts = []
        while len(starts) < orbits:
            point = some_point(source, len(exponents))
            if groups_at(exponents, point) not in [groups_at(exponents, old) for old, _ in starts]:
                starts.append((point, Fraction(source.randint(-9, 9), source.randint(1, 9))))
            elif kernel(columns(exponents)) == ():
                break
        self.rows = []
        for k in range(many):
            point, value = starts[k] if k < len(starts) else source.choice(starts)
            steps = [Fraction(source.randint(1, 4), source.randint(1, 4)) ** source.choice((6, 12, -6)) for _ in result]
            moved_point = moved(source, exponents, point, steps)
            self.rows.append((moved_point, value * product([pair(step) for step in steps], result)))
        source.shuffle(self.rows)

    def told(self, source):
        """The rows as callers may pass them."""
        return [told_row(source, row) for row in self.rows]


def told_row(source, row):
    inputs, value = row
    return (tuple([in_other_terms(source, pair(item)) for item in inputs]), in_other_terms(source, pair(value)))


def told_point(source, point):
    return tuple([in_other_terms(source, pair(item)) for item in point])
