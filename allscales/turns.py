"""New letters, monomials of the old ones, of which the first ones are moved by scalings and the others are not."""

from allscales.echelon import combined, dot, hermite_pair, identity, transposed
from allscales.exact import ratio_product
from allscales.powers import product_value


def turn_of(basis, many):
    """(down, up): y[i] is the product of x[j] ** down[i][j], x[j] that of y[i] ** up[j][i].

    basis are the rows of a saturated lattice of weights of so many letters. The product of the row
    k of down and the row i of basis is 1 if k is i, otherwise 0.
    """
    if basis == []:
        return (identity(many), identity(many))
    # The Hermite form of the turned basis is an identity with rows of zeros below, as it is saturated.
    left, middle = hermite_pair(transposed(basis))
    rows = shortened(left, len(basis))
    return (rows, hermite_pair(rows)[0])


def shortened(rows, many):
    """The rows with multiples of those from the number many on added to all others, while it makes them shorter.

    The powers in down are powers of whole quotients in what is worked out with it.
    """
    rows = [list(row) for row in rows]
    changed = True
    while changed:
        changed = False
        for k in range(many, len(rows)):
            for i in range(len(rows)):
                times = 0 if i == k else nearest(dot(rows[i], rows[k]), dot(rows[k], rows[k]))
                if times != 0:
                    rows[i] = combined(1, rows[i], -times, rows[k])
                    changed = True
    return rows


def nearest(top, bottom):
    """An integer next to top / bottom, bottom above 0, and 0 if that is a half away at most."""
    if abs(2 * top) <= bottom:
        return 0
    return (2 * top + bottom) // (2 * bottom)


def carried_point(rows, point):
    """For each row the product of the numbers of a point, none of them 0, to the powers in it."""
    sizes = [(abs(top), bottom) for top, bottom in point]
    found = []
    for row in rows:
        sign, k, product = product_value([(size, (n, 1)) for size, n in zip(sizes, row)])
        for number, n in zip(point, row):
            if number[0] < 0 and n & 1 == 1:
                sign = -sign
        found.append(ratio_product(product, (sign, 1)))
    return tuple(found)
