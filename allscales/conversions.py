"""Sizes that are not known: equations between products of their powers."""

from allscales.echelon import dot, identity, kernel_rows, pivot_of, transposed
from allscales.errors import BadMatrix, BadNumber
from allscales.exact import are_integers, as_ratio, is_list, is_ratio, lowest, ratio_power, ratio_product
from allscales.linear import cleared, span_of
from allscales.matrices import check_matrix, ratio_answer
from allscales.powers import power_value, product_value


class Sizes:
    """Sizes, power values, that fulfill all equations."""

    def __init__(self, numbers):
        self.numbers = tuple(numbers)


class Ring:
    """Weights with which the rows add up to zeros, but with which the product of the ratios is not 1."""

    def __init__(self, weights, product):
        self.weights = tuple(weights)
        self.product = product


class Loose:
    """Powers of 2 that may be put on the sizes while all equations stay."""

    def __init__(self, change):
        self.change = tuple(change)


def sizes(rows, ratios):
    """Sizes that fulfill the equations, or a Ring if there are none."""
    given = checked_ratios(rows, ratios)
    ring = ring_among(rows, given)
    if ring is not None:
        return ring
    chosen = independent_rows(rows)
    numbers = [power_value(1, 1, 1)] * len(rows[0])
    # Beside the reduced rows stand the multiples of the chosen ones that they are. The sizes at
    # their pivots are settled by them once all others are 1.
    for row in span_of([list(rows[k]) + unit for k, unit in zip(chosen, identity(len(chosen)))]):
        at = pivot_of(row)
        multiples = [lowest(many, row[at]) for many in row[len(rows[0]):]]
        numbers[at] = value_by(given, chosen, multiples)
    return Sizes(numbers)


def size_settled(rows, ratios, row):
    """The power value of the product of powers that a row tells, Loose if it is not settled, or a Ring."""
    given = checked_ratios(rows, ratios)
    if not isinstance(row, tuple) or len(row) != len(rows[0]) or not are_integers(row):
        raise BadMatrix("row")
    ring = ring_among(rows, given)
    if ring is not None:
        return ring
    for change in kernel_rows(rows):
        if dot(change, row) != 0:
            return Loose(change)
    chosen = independent_rows(rows)
    if chosen == []:
        return power_value(1, 1, 1)
    found = ratio_answer(transposed([rows[k] for k in chosen]), row)
    return value_by(given, chosen, found.spot)


def loose_ends(rows, ratios):
    """The indices of all equations without which the others hold together; () if all of them do."""
    given = checked_ratios(rows, ratios)
    if ring_among(rows, given) is None:
        return ()
    return tuple([k for k in range(len(rows)) if holds_without(rows, given, k)])


def holds_without(rows, given, k):
    """Whether the equations without the one with the index k hold together."""
    others = [row for at, row in enumerate(rows) if at != k]
    return others == [] or ring_among(others, [ratio for at, ratio in enumerate(given) if at != k]) is None


def checked_ratios(rows, ratios):
    """The ratios of equations in lowest terms, or the error that is due."""
    check_matrix(rows)
    if not is_list(ratios) or len(ratios) != len(rows):
        raise BadNumber("ratios", ratios)
    for value in ratios:
        if not is_ratio(value) or as_ratio(value)[0] <= 0:
            raise BadNumber("ratio", value)
    return [as_ratio(value) for value in ratios]


def ring_among(rows, given):
    """A Ring of the equations, None if they hold together."""
    # If the products are 1 for a basis of all weights, they are 1 for all of their sums.
    for weights in kernel_rows(transposed(rows)):
        product = (1, 1)
        for ratio, weight in zip(given, weights):
            product = ratio_product(product, ratio_power(ratio, weight))
        if product != (1, 1):
            return Ring(weights, product)
    return None


def independent_rows(rows):
    """The indices of rows, as many as can be, that are independent."""
    chosen = []
    found = []
    for k, row in enumerate(rows):
        if any(cleared(found, row)):
            chosen.append(k)
            found = span_of(found + [list(row)])
    return chosen


def value_by(given, chosen, exponents):
    """The power value of the product of the chosen ones of the ratios to the powers of exponents."""
    return product_value([(given[k], exponent) for k, exponent in zip(chosen, exponents)])
