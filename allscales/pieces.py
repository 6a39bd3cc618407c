"""Polynomials that are 1 at one point and 0 at some others."""

from allscales.exact import lowest, ratio_product
from allscales.nonzero import product_table
from allscales.polys import Poly


def piece_at(point, others):
    """A polynomial that is 1 at a point of ratios and 0 at the others, all of them unlike the point."""
    size = len(point)
    ahead = (0,) * size
    table = {ahead: 1}
    # What the product of the factors is at the point.
    scale = (1, 1)
    for letter, (top, bottom) in zeros_between(point, others):
        here = point[letter]
        scale = ratio_product(scale, lowest(bottom * here[0] - top * here[1], here[1]))
        table = product_table(table, {letter_exponents(size, letter): bottom, ahead: -top})
    # Poly brings the numbers to lowest terms, which takes long for long ones, and is not done twice.
    many = scale[1] if scale[0] > 0 else -scale[1]
    return Poly(size, [(exponents, (number * many, abs(scale[0]))) for exponents, number in table.items()])


def letter_exponents(size, letter):
    """The exponents of one letter alone."""
    return tuple([1 if at == letter else 0 for at in range(size)])


def zeros_between(point, others):
    """Pairs (letter, value): each of the others has one of these values, the point has none of them."""
    found = []
    left = others
    while left:
        # The letter that tells most of them from the point comes first, so that there are few factors.
        unlike = [[other[at] for other in left if other[at] != here] for at, here in enumerate(point)]
        counts = [len(row) for row in unlike]
        letter = counts.index(max(counts))
        found.extend([(letter, value) for value in sorted(set(unlike[letter]))])
        left = [other for other in left if other[letter] == point[letter]]
    return found
