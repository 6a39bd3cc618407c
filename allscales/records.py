"""Records of measurements of one covariant rule, and what they settle."""

from allscales.coprime import coprime_parts, powers_in, wholes_of
from allscales.echelon import kernel_rows, saturated_rows, sum_of_rows, transposed
from allscales.errors import BadNumber, Contradicted
from allscales.exact import as_ratio, as_tuples, is_list, ratio_over, ratio_product, ratio_sum, whole_power
from allscales.fitting import fitted_powers, is_above, is_inputs, is_measurement, lowest_inputs, shared_out
from allscales.hanging import check_exponents
from allscales.matrices import Bar, check_matrix, ratio_answer
from allscales.pieces import piece_at
from allscales.powers import power_value, product_value

NOTHING = (0, 1, (0, 1))


class Records:
    """Measurements, pairs (inputs, value), of one rule for the exponents of its letters and of its value.

    basis are the groups, and marks the products of the inputs of each row to their powers: alike for
    rows of one orbit alone. powers lead from the letters to the value, None if each covariant rule is 0.
    """

    def __init__(self, exponents, result, rows):
        check_exponents(exponents, result)
        if not is_list(rows):
            raise BadNumber("rows", rows)
        self.rows = checked_rows(rows, len(exponents), False)
        self.exponents = as_tuples(exponents)
        self.result = as_tuples(result)
        self.basis = kernel_rows(transposed(exponents))
        self.marks = [mark_of(self.basis, inputs) for inputs, value in self.rows]
        self.orbits = orbits_among(self.marks)
        found = ratio_answer(transposed(exponents), result)
        self.powers = None if isinstance(found, Bar) else found.spot
        self.contradiction = first_contradiction(self)

    def settled(self, inputs):
        """What the record tells of new inputs: Settled or Open."""
        if not is_inputs(inputs, len(self.exponents)):
            raise BadNumber("inputs", inputs)
        if self.contradiction is not None:
            raise Contradicted(self.contradiction.first, self.contradiction.second)
        if self.powers is None:
            return Settled(None, None, NOTHING)
        point = lowest_inputs(inputs)
        mark = mark_of(self.basis, point)
        firsts = [orbit[0] for orbit in self.orbits]
        for first in firsts:
            if self.marks[first] == mark:
                return Settled(first, self.powers, due_value(self, first, point))
        marks = [self.marks[first] for first in firsts]
        pieces = [piece_at(own, marks[:k] + marks[k + 1:]) for k, own in enumerate(marks)]
        return Open(pieces, piece_at(mark, marks))


class Contradiction:
    """The value of row second must be due by row first, and is not."""

    def __init__(self, first, second, due):
        self.first = first
        self.second = second
        self.due = due


class Settled:
    """A value that all covariant rules with the record have, by the row place and powers of the letters."""

    def __init__(self, place, powers, value):
        self.place = place
        self.powers = as_tuples(powers)
        self.value = value


class Open:
    """For each orbit a polynomial in the groups that is 1 there and 0 at the others; extra is 1 at the new inputs."""

    def __init__(self, pieces, extra):
        self.pieces = as_tuples(pieces)
        self.extra = extra


class Fitting:
    """All rows of ratios that fit: spot plus sums of ratio multiples of the rows of basis."""

    def __init__(self, spot, basis):
        self.spot = as_tuples(spot)
        self.basis = as_tuples(basis)


class NoUnits:
    """Weights of pairs of rows, and of the numbers of a coprime base, that show that no exponents fit."""

    def __init__(self, pairs, base, weights):
        self.pairs = as_tuples(pairs)
        self.base = as_tuples(base)
        self.weights = as_tuples(weights)


def checked_rows(rows, many, above):
    """The measurements of so many letters in lowest terms, or the error for the first wrong one.

    If above is True, their values have to be above 0.
    """
    for row in rows:
        if not is_measurement(row, many) or (above and not is_above(row[1])):
            raise BadNumber("row", row)
    return tuple([(lowest_inputs(inputs), as_ratio(value)) for inputs, value in rows])


def mark_of(basis, inputs):
    """The products of inputs, ratios above 0, to the powers of the rows of a basis."""
    base = coprime_parts(wholes_of(inputs))
    powers = [powers_in(item, base) for item in inputs]
    return tuple([product_of_parts(base, sum_of_rows(row, powers, len(base))) for row in basis])


def product_of_parts(base, powers):
    """The product of integers, without common divisors, to the powers: a ratio in lowest terms."""
    top = 1
    bottom = 1
    for part, power in zip(base, powers):
        if power > 0:
            top = top * whole_power(part, power)
        else:
            bottom = bottom * whole_power(part, -power)
    return (top, bottom)


def orbits_among(marks):
    """The ascending tuples of the indices of like marks, ordered by their first indices."""
    found = {}
    for k, mark in enumerate(marks):
        found.setdefault(mark, []).append(k)
    return tuple([tuple(orbit) for orbit in found.values()])


def first_contradiction(record):
    """The Contradiction of the first row that is not possible behind those ahead of it, None without one."""
    if record.powers is None:
        for k, (inputs, value) in enumerate(record.rows):
            if value[0] != 0:
                return Contradiction(k, k, NOTHING)
        return None
    firsts = {k: orbit[0] for orbit in record.orbits for k in orbit}
    for k, (inputs, value) in enumerate(record.rows):
        if firsts[k] != k:
            due = due_value(record, firsts[k], inputs)
            if due != exact_value(value):
                return Contradiction(firsts[k], k, due)
    return None


def exact_value(value):
    """The power value that is a ratio."""
    top, bottom = value
    sign = 0 if top == 0 else top // abs(top)
    return power_value(sign, 1, (abs(top), bottom))


def due_value(record, first, inputs):
    """The power value at inputs of the orbit of the row first that all covariant rules with that row have."""
    start, value = record.rows[first]
    sign, k, size = exact_value(value)
    if sign == 0:
        return NOTHING
    factors = [(ratio_over(new, old), power) for new, old, power in zip(inputs, start, record.powers)]
    found = product_value(factors + [(size, (1, 1))])
    return (sign, found[1], found[2])


def plan(exponents, inputs):
    """The indices of the first inputs of each orbit."""
    check_matrix(exponents, "exponents")
    for item in inputs:
        if not is_inputs(item, len(exponents)):
            raise BadNumber("inputs", item)
    basis = kernel_rows(transposed(exponents))
    marks = [mark_of(basis, lowest_inputs(item)) for item in inputs]
    return tuple([orbit[0] for orbit in orbits_among(marks)])


def result_units(exponents, rows):
    """All exponents of the value for which a record is possible, or NoUnits if there are none."""
    check_matrix(exponents, "exponents")
    if not is_list(rows) or len(rows) == 0:
        raise BadNumber("rows", rows)
    given = checked_rows(rows, len(exponents), True)
    basis = kernel_rows(transposed(exponents))
    orbits = orbits_among([mark_of(basis, inputs) for inputs, value in given])
    pairs = [(orbit[0], k) for orbit in orbits for k in orbit[1:]]
    base, found = fitted_powers([changes_between(given[i], given[k]) for i, k in pairs], len(exponents))
    if isinstance(found, Bar):
        return NoUnits(pairs, base, shared_out(found.weights, len(base)))
    width = len(exponents[0])
    images = [sum_of_rows(row, exponents, width) for row in found.basis]
    return Fitting(sum_of_ratios(found.spot, exponents, width), saturated_rows(images) if images else [])


def changes_between(one, other):
    """The inputs of another measurement over those of one, and behind them the value over the value."""
    changes = [ratio_over(new, old) for new, old in zip(other[0], one[0])]
    return changes + [ratio_over(other[1], one[1])]


def sum_of_ratios(multiples, rows, width):
    """The sum of multiples, ratios, of rows of integers of this width."""
    total = [(0, 1)] * width
    for many, row in zip(multiples, rows):
        total = [ratio_sum(old, ratio_product(many, (item, 1))) for old, item in zip(total, row)]
    return total
