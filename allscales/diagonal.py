"""Matrices of integers in Smith form."""

from allscales.echelon import bezout, combined, hermite_pair, identity, product_of, transposed


def smith_triple(rows):
    """(left, middle, right): left and right are unimodular, left * rows * right is middle, the Smith form."""
    left, middle = hermite_pair(rows)
    turned = identity(len(rows[0]))
    # Hermite forms of rows and of columns in turn: the first item becomes a divisor of its former
    # self until it divides its row and its column, which then stay cleared; so do those behind it.
    while not is_diagonal(middle):
        step, across = hermite_pair(transposed(middle))
        turned = product_of(step, turned)
        middle = transposed(across)
        if not is_diagonal(middle):
            step, middle = hermite_pair(middle)
            left = product_of(step, left)
    left, diagonal, turned = divided(left, [row[at] for at, row in enumerate(middle[:len(turned)])], turned)
    middle = [[diagonal[at] if at == place else 0 for at in range(len(turned))] for place in range(len(left))]
    return (left, middle, transposed(turned))


def is_diagonal(rows):
    """Whether all items but those at (0, 0), (1, 1), .. are 0."""
    return not any([item != 0 and at != place for place, row in enumerate(rows) for at, item in enumerate(row)])


def divided(left, diagonal, turned):
    """The same with a diagonal in which each item divides the next one; turned is right, transposed."""
    left = list(left)
    diagonal = list(diagonal)
    turned = list(turned)
    many = len(diagonal)
    for i in range(many):
        for j in range(i + 1, many):
            if diagonal[j] != 0 and diagonal[j] % diagonal[i] != 0:
                shared, x, y = bezout(diagonal[i], diagonal[j])
                a = diagonal[i] // shared
                b = diagonal[j] // shared
                # ((x, y), (-b, a)) times the two items times ((1, -y * b), (1, x * a)) are their
                # greatest common divisor and their least common multiple.
                left[i], left[j] = combined(x, left[i], y, left[j]), combined(-b, left[i], a, left[j])
                turned[i], turned[j] = (combined(1, turned[i], 1, turned[j]),
                                        combined(-y * b, turned[i], x * a, turned[j]))
                diagonal[i], diagonal[j] = shared, a * diagonal[j]
    return (left, diagonal, turned)
