"""Matrices of integers in Hermite form, made by taking in one row after the other.

A Hermite form is the same for each matrix with its lattice. So what stands between two rows that
are taken in never grows larger than the determinants of parts of the matrix.
"""


def pivot_of(row):
    """The index of the first item that is not 0; the length of the row if there is none."""
    for at, item in enumerate(row):
        if item != 0:
            return at
    return len(row)


def combined(many, one, times, other):
    """many times one row plus times another row."""
    return [many * a + times * b for a, b in zip(one, other)]


def bezout(one, other):
    """(g, x, y), g the greatest common divisor, above 0, and x * one + y * other = g; one is above 0."""
    x, later_x = 1, 0
    y, later_y = 0, 1
    while other != 0:
        many = one // other
        one, other = other, one - many * other
        x, later_x = later_x, x - many * later_x
        y, later_y = later_y, y - many * later_y
    if one < 0:
        return (-one, -x, -y)
    return (one, x, y)


def hermite_rows(rows):
    """The Hermite form of the rows, without its rows of zeros."""
    basis = []
    for row in rows:
        basis = reduced(taken_in(basis, list(row)))
    return basis


def taken_in(basis, row):
    """Rows with rising pivots for the lattice of a basis, in Hermite form, and one row more."""
    kept = []
    for held in basis:
        at = pivot_of(held)
        first = pivot_of(row)
        if first < at:
            kept.append(row)
            row = held
        elif first > at:
            kept.append(held)
        elif row[at] % held[at] == 0:
            kept.append(held)
            row = combined(1, row, -(row[at] // held[at]), held)
        else:
            shared, x, y = bezout(held[at], row[at])
            kept.append(combined(x, held, y, row))
            row = combined(held[at] // shared, row, -(row[at] // shared), held)
    if any(row):
        kept.append(row)
    return kept


def reduced(rows):
    """The Hermite form of rows, none of zeros, whose pivots rise."""
    pivots = []
    done = []
    for row in reversed(rows):
        first = pivot_of(row)
        if row[first] < 0:
            row = [-item for item in row]
        for at, below in zip(pivots, done):
            many = row[at] // below[at]
            if many != 0:
                row = combined(1, row, -many, below)
        pivots = [first] + pivots
        done = [row] + done
    return done


def identity(many):
    """The matrix with 1 at the places (0, 0), (1, 1), .. and 0 elsewhere."""
    return [[1 if at == row else 0 for at in range(many)] for row in range(many)]


def transposed(rows):
    """The matrix whose rows are the columns of this one, which has a row."""
    return [[row[at] for row in rows] for at in range(len(rows[0]))]


def product_of(one, other):
    """The product of two matrices, neither of which is empty."""
    columns = transposed(other)
    return [[dot(row, column) for column in columns] for row in one]


def dot(one, other):
    """The sum of the products, item by item."""
    return sum([a * b for a, b in zip(one, other)])


def hermite_pair(rows):
    """(left, middle): left is unimodular, and left times rows is middle, the Hermite form.

    The rows of left at the rows of zeros of middle are the basis of all rows whose product with
    the matrix is zero: they end the Hermite form of the rows with an identity matrix beside them.
    """
    width = len(rows[0])
    wide = [list(row) + unit for row, unit in zip(rows, identity(len(rows)))]
    done = hermite_rows(wide)
    return ([row[width:] for row in done], [row[:width] for row in done])


def kernel_rows(rows):
    """The basis of the kernel of a matrix."""
    left, middle = hermite_pair(transposed(rows))
    return [row for row, image in zip(left, middle) if not any(image)]


def saturated_rows(rows):
    """The basis of the least saturated lattice with all rows."""
    across = kernel_rows(rows)
    if across == []:
        return identity(len(rows[0]))
    return kernel_rows(across)


def steps_of(rows):
    """The rows of a matrix in Hermite form that are not zeros."""
    return [row for row in rows if any(row)]


def multiples_in(steps, row):
    """(multiples, rest): the row less the multiples of the first steps is rest; steps are in Hermite form.

    The row is a sum of integer multiples of the steps exactly if rest has zeros only. Otherwise
    the steps ahead of the first item of rest that is not 0 are those that have a multiple.
    """
    rest = list(row)
    multiples = []
    for step in steps:
        at = pivot_of(step)
        if any(rest[:at]) or rest[at] % step[at] != 0:
            break
        many = rest[at] // step[at]
        multiples.append(many)
        rest = combined(1, rest, -many, step)
    return (multiples, rest)


def sum_of_rows(multiples, rows, width):
    """The sum of multiples of rows of this width."""
    total = [0] * width
    for many, row in zip(multiples, rows):
        total = combined(1, total, many, row)
    return total
