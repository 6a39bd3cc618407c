"""Systems of equations and inequalities, and recurrences, that become smaller by their scalings."""

from allscales.echelon import dot, identity, kernel_rows
from allscales.errors import BadNumber, ByZero
from allscales.exact import as_ratio, as_tuples, is_whole, ratio_minus, ratio_over, ratio_sum
from allscales.linear import span_of
from allscales.nonzero import product_table, table_of
from allscales.polys import Poly, is_point
from allscales.quotients import Quotient, check_size, is_nothing, put_in
from allscales.turns import carried_point, turn_of

SIGNS = ("=", "<")


class System:
    """Rows (left, sign, right) in so many letters, left and right being sums of monomials."""

    def __init__(self, size, rows):
        check_size(size)
        for k, row in enumerate(rows):
            if not is_row(row, size):
                raise BadNumber("row", k)
        self.size = size
        self.rows = tuple(rows)

    def solved_at(self, point):
        """Whether a point solves all rows."""
        numbers = checked_point("point", point, self.size, has_below(self))
        return all([solves(row, numbers) for row in self.rows])


class Scalings:
    """The basis of the weights of a system, and by which powers of their factors each row is multiplied."""

    def __init__(self, basis, factors):
        self.basis = as_tuples(basis)
        self.factors = as_tuples(factors)


class Reduced:
    """The small system, and the ways down to the new letters and up to the old ones."""

    def __init__(self, system, down, up):
        self.system = system
        self.down = as_tuples(down)
        self.up = as_tuples(up)


class Recurrence:
    """For each letter the quotient by whose value it is replaced in a step."""

    def __init__(self, size, rows):
        if not is_whole(size) or size < 1:
            raise BadNumber("size", size)
        for k, row in enumerate(rows[:size]):
            if not isinstance(row, Quotient) or row.size != size or is_nothing(row):
                raise BadNumber("row", k)
        if len(rows) != size:
            raise BadNumber("row", size)
        self.size = size
        self.rows = tuple(rows)


class Steps:
    """What a step does to the new letters: factors of the first ones, and the values of the others."""

    def __init__(self, factors, rows, down, up):
        self.factors = as_tuples(factors)
        self.rows = as_tuples(rows)
        self.down = as_tuples(down)
        self.up = as_tuples(up)


def is_row(row, size):
    """Whether a value is a row of a system in so many letters."""
    if not isinstance(row, tuple) or len(row) != 3:
        return False
    left, sign, right = row
    return isinstance(sign, str) and sign in SIGNS and is_sum(left, size) and is_sum(right, size)


def is_sum(value, size):
    """Whether a value is a quotient in so many letters whose bottom has one term."""
    return isinstance(value, Quotient) and value.size == size and len(value.bottom.terms) == 1


def has_below(system):
    """Whether a system has a row "<"."""
    return any([sign == "<" for left, sign, right in system.rows])


def checked_point(what, point, many, above):
    """The ratios of a point, none of them 0 and if above is True none below it, or the error that is due."""
    if not is_point(point, many):
        raise BadNumber(what, point)
    numbers = tuple([as_ratio(item) for item in point])
    if any([top == 0 or (above and top < 0) for top, bottom in numbers]):
        raise BadNumber(what, point)
    return numbers


def solves(row, point):
    """Whether a point solves a row."""
    left, sign, right = row
    one = left.at(point)
    other = right.at(point)
    if sign == "=":
        return one == other
    return ratio_minus(one, other)[0] < 0


def scalings(system):
    """The weights of all scalings of a system."""
    heads = []
    gaps = []
    for left, sign, right in system.rows:
        monomials = difference_of(left, right)
        heads.append(monomials[0] if monomials else (0,) * system.size)
        gaps.extend(gaps_of(monomials))
    basis = weights_off(gaps, system.size)
    return Scalings(basis, [[dot(row, head) for row in basis] for head in heads])


def difference_of(left, right):
    """The exponents of the monomials of left less right, both with bottoms of one term, in ascending order."""
    sums = {}
    for quotient, way in ((left, 1), (right, -1)):
        below, divisor = quotient.bottom.terms[0]
        for exponents, number in quotient.top.terms:
            key = tuple([a - b for a, b in zip(exponents, below)])
            sums[key] = ratio_sum(sums.get(key, (0, 1)), ratio_over((way * number[0], number[1]), divisor))
    return sorted([key for key in sums if sums[key][0] != 0])


def gaps_of(monomials):
    """The exponents of all monomials but the first one, less those of the first one."""
    return [[a - b for a, b in zip(exponents, monomials[0])] for exponents in monomials[1:]]


def weights_off(rows, size):
    """The basis of the lattice of all rows of so many integers whose product with each of these rows is 0."""
    found = span_of(rows)
    return kernel_rows(found) if found else identity(size)


def reduced(system):
    """The small system of a system."""
    basis = scalings(system).basis
    down, up = turn_of(list(basis), system.size)
    rows = small_rows(up, len(basis))
    size = system.size - len(basis)
    small = [(put_in(left, size, rows), sign, put_in(right, size, rows)) for left, sign, right in system.rows]
    return Reduced(System(size, small), down, up)


def small_rows(up, rank):
    """The exponents of the old letters in the new ones behind the first ones, so many, which are 1."""
    return [tuple(row[rank:]) for row in up]


def carried_down(reduced, point):
    """(factors, small): the first new letters at a point, and the others."""
    small = reduced.system
    rows = reduced.down
    numbers = carried_point(rows, checked_point("point", point, len(rows), has_below(small)))
    rank = len(rows) - small.size
    return (numbers[:rank], numbers[rank:])


def carried_up(reduced, factors, small):
    """The point with these new letters, the first ones and the others."""
    system = reduced.system
    above = has_below(system)
    rows = reduced.up
    first = checked_point("factors", factors, len(rows) - system.size, above)
    return carried_point(rows, first + checked_point("point", small, system.size, above))


def weights_of_steps(recurrence):
    """The basis of the weights of a recurrence."""
    return as_tuples(step_weights(recurrence))


def step_weights(recurrence):
    """The rows of the basis of the weights of a recurrence."""
    gaps = []
    for unit, quotient in zip(identity(recurrence.size), recurrence.rows):
        above = [exponents for exponents, number in quotient.top.terms]
        below = [exponents for exponents, number in quotient.bottom.terms]
        gaps.extend(gaps_of(above) + gaps_of(below))
        gaps.append([a - b - c for a, b, c in zip(above[0], below[0], unit)])
    return weights_off(gaps, recurrence.size)


def run(recurrence, start, n):
    """The points from start on, n steps long."""
    if not is_point(start, recurrence.size):
        raise BadNumber("point", start)
    if not is_whole(n) or n < 0:
        raise BadNumber("steps", n)
    points = [tuple([as_ratio(item) for item in start])]
    for k in range(n):
        below = [quotient.bottom.at(points[k]) for quotient in recurrence.rows]
        if any([top == 0 for top, bottom in below]):
            raise ByZero(k)
        above = [quotient.top.at(points[k]) for quotient in recurrence.rows]
        points.append(tuple([ratio_over(one, other) for one, other in zip(above, below)]))
    return tuple(points)


def reduced_recurrence(recurrence):
    """What a step does to the new letters of a recurrence."""
    basis = step_weights(recurrence)
    down, up = turn_of(basis, recurrence.size)
    size = recurrence.size - len(basis)
    rows = small_rows(up, len(basis))
    values = [put_in(quotient, size, rows) for quotient in recurrence.rows]
    steps = [product_of_powers(values, powers, size) for powers in down]
    return Steps(steps[:len(basis)], steps[len(basis):], down, up)


def product_of_powers(values, powers, size):
    """The product of quotients in so many letters, none of them 0, to integer powers."""
    # Like tops and bottoms are cancelled ahead of the product, in which they would become long.
    totals = {}
    for value, power in zip(values, powers):
        for poly, many in ((value.top, power), (value.bottom, -power)):
            totals[poly.terms] = totals.get(poly.terms, 0) + many
    above = {(0,) * size: 1}
    below = {(0,) * size: 1}
    for terms, many in totals.items():
        table = table_of(Poly(size, terms))
        for _ in range(abs(many)):
            if many > 0:
                above = product_table(above, table)
            else:
                below = product_table(below, table)
    return Quotient(Poly(size, list(above.items())), Poly(size, list(below.items())))
