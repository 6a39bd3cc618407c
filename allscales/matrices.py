"""Whole numbers: Hermite and Smith forms, lattices, and equations in integers and in ratios."""

from allscales.diagonal import smith_triple
from allscales.echelon import (hermite_pair, hermite_rows, kernel_rows, multiples_in, pivot_of, saturated_rows,
                               steps_of, sum_of_rows, transposed)
from allscales.errors import BadMatrix
from allscales.exact import (are_integers, as_ratio, as_tuples, common_bottom, is_list, is_ratio, lowest, ratio_over,
                             ratio_product, ratio_sum)


class Hermite:
    """left, unimodular, times the rows is middle, in Hermite form."""

    def __init__(self, left, middle):
        self.left = as_tuples(left)
        self.middle = as_tuples(middle)


class Smith:
    """left times the rows times right is middle, in Smith form; left and right are unimodular."""

    def __init__(self, left, middle, right):
        self.left = as_tuples(left)
        self.middle = as_tuples(middle)
        self.right = as_tuples(right)


class Answer:
    """All answers: spot plus sums of multiples of the rows of basis."""

    def __init__(self, spot, basis):
        self.spot = as_tuples(spot)
        self.basis = as_tuples(basis)


class Bar:
    """Weights of the equations that show that there is no answer."""

    def __init__(self, weights):
        self.weights = as_tuples(weights)


def hermite(rows):
    """The Hermite form of a matrix of integers."""
    check_matrix(rows)
    left, middle = hermite_pair(rows)
    return Hermite(left, middle)


def smith(rows):
    """The Smith form of a matrix of integers."""
    check_matrix(rows)
    left, middle, right = smith_triple(rows)
    return Smith(left, middle, right)


def basis_of(rows):
    """The basis of the lattice of a matrix."""
    check_matrix(rows)
    return as_tuples(hermite_rows(rows))


def kernel(rows):
    """The basis of the lattice of all rows whose product with each row of the matrix is 0."""
    check_matrix(rows)
    return as_tuples(kernel_rows(rows))


def saturated(rows):
    """The basis of the least saturated lattice with all rows."""
    check_matrix(rows)
    return as_tuples(saturated_rows(rows))


def index_of(rows):
    """How many times the lattice of a matrix fits into its saturated one."""
    check_matrix(rows)
    # Both bases have their pivots in the same columns, so the one is a triangular matrix times the
    # other, and its determinant is the index.
    return pivots_product(hermite_rows(rows)) // pivots_product(saturated_rows(rows))


def in_lattice(rows, row):
    """Multiples of the rows whose sum is row, None if there are none."""
    check_matrix(rows)
    check_items(row, len(rows[0]), "row")
    left, middle = hermite_pair(rows)
    multiples, rest = multiples_in(steps_of(middle), row)
    if any(rest):
        return None
    return tuple(sum_of_rows(multiples, left, len(rows)))


def alike_lattices(one, other):
    """Whether two matrices have the same lattice."""
    check_matrix(one)
    check_matrix(other)
    return len(one[0]) == len(other[0]) and hermite_rows(one) == hermite_rows(other)


def whole_answer(rows, right):
    """The integers whose product with each row is the item of right at its place."""
    check_matrix(rows)
    check_items(right, len(rows), "right")
    left, middle = hermite_pair(transposed(rows))
    steps = steps_of(middle)
    multiples, rest = multiples_in(steps, right)
    if not any(rest):
        return Answer(sum_of_rows(multiples, left, len(rows[0])), left[len(steps):])
    return Bar(whole_barring(steps, len(multiples), rest))


def ratio_answer(rows, right):
    """The ratios whose product with each row is the item of right at its place."""
    if not is_matrix(rows) or not all([is_ratio(item) for row in rows for item in row]):
        raise BadMatrix("rows")
    if not is_list(right) or len(right) != len(rows) or not all([is_ratio(item) for item in right]):
        raise BadMatrix("right")
    scales = [common_bottom([as_ratio(item) for item in list(row) + [end]]) for row, end in zip(rows, right)]
    whole = [[scaled(scale, item) for item in row] for scale, row in zip(scales, rows)]
    left, middle = hermite_pair(transposed(whole))
    steps = steps_of(middle)
    # Multiples that are ratios have bottoms that divide the product of the pivots.
    share = pivots_product(steps)
    multiples, rest = multiples_in(steps, [share * scaled(scale, item) for scale, item in zip(scales, right)])
    if not any(rest):
        spot = sum_of_rows(multiples, left, len(whole[0]))
        return Answer([lowest(item, share) for item in spot], left[len(steps):])
    weights = barring(steps[:len(multiples)], len(rows), pivot_of(rest), (1, 1))
    return Bar([ratio_product(weight, (scale, 1)) for weight, scale in zip(weights, scales)])


def is_matrix(rows):
    """Whether a value is a list of at least one row of the same number, from 1 on, of items of any kind."""
    if not is_list(rows) or len(rows) == 0 or not all([is_list(row) for row in rows]):
        return False
    width = len(rows[0])
    return width > 0 and all([len(row) == width for row in rows])


def check_matrix(rows, what="rows"):
    """Raises the error that is due unless rows is a matrix of integers."""
    if not is_matrix(rows) or not all([are_integers(row) for row in rows]):
        raise BadMatrix(what)


def check_items(items, many, what):
    """Raises the error that is due unless items is a list of so many integers."""
    if not is_list(items) or len(items) != many or not are_integers(items):
        raise BadMatrix(what)


def pivots_product(steps):
    """The product of the pivots of rows, none of zeros."""
    product = 1
    for step in steps:
        product = product * step[pivot_of(step)]
    return product


def scaled(scale, ratio):
    """A ratio times a scale that makes it an integer."""
    top, bottom = as_ratio(ratio)
    return top * (scale // bottom)


def whole_barring(steps, many, rest):
    """Ratios with a sum of products with each step that is an integer, and with rest that is none.

    The steps are rows in Hermite form; rest, not 0, is left by multiples_in, behind so many of them.
    """
    first = pivot_of(rest)
    # With half of what takes rest to 1, or with a part of the pivot that rest is no multiple of.
    share = lowest(1, 2 * rest[first])
    if many < len(steps) and pivot_of(steps[many]) == first:
        share = (1, steps[many][first])
    return barring(steps[:many], len(rest), first, share)


def barring(steps, width, first, share):
    """Ratios, one for each column, with a sum of products of 0 with each of the steps.

    The one of the column first is share, all others stand at the pivots of the steps, which are
    rows in Hermite form with pivots ahead of first.
    """
    weights = [(0, 1)] * width
    weights[first] = share
    for step in reversed(steps):
        at = pivot_of(step)
        total = (0, 1)
        for item, weight in zip(step, weights):
            total = ratio_sum(total, ratio_product((item, 1), weight))
        weights[at] = ratio_over(total, (-step[at], 1))
    return weights
