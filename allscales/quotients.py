"""Quotients of polynomials, brought to one form but not to lowest terms."""

from math import gcd

from allscales.echelon import sum_of_rows
from allscales.errors import BadNumber, ByZero
from allscales.exact import are_integers, common_bottom, is_index, is_list, is_ratio, is_whole, ratio_over
from allscales.polys import Poly, is_point


class Quotient:
    """One polynomial divided by another one that is not 0."""

    def __init__(self, top, bottom):
        if bottom.terms == ():
            raise ByZero(0)
        self.size = top.size
        if top.terms == ():
            self.top = top
            self.bottom = number_poly(top.size, 1)
        else:
            least = least_exponents(top.terms + bottom.terms)
            scale = form_scale(top.terms + bottom.terms, bottom.terms[0][1])
            self.top = brought(top, scale, least)
            self.bottom = brought(bottom, scale, least)

    def __add__(self, other):
        if self.bottom == other.bottom:
            return Quotient(self.top + other.top, self.bottom)
        return Quotient(self.top * other.bottom + other.top * self.bottom, self.bottom * other.bottom)

    def __sub__(self, other):
        return self + (-other)

    def __mul__(self, other):
        return Quotient(self.top * other.top, self.bottom * other.bottom)

    def __neg__(self):
        return Quotient(-self.top, self.bottom)

    def __eq__(self, other):
        return isinstance(other, Quotient) and self.top == other.top and self.bottom == other.bottom

    def over(self, other):
        """This quotient divided by another one."""
        if is_nothing(other):
            raise ByZero(0)
        return Quotient(self.top * other.bottom, self.bottom * other.top)

    def power(self, n):
        """The power n of the quotient."""
        if not is_whole(n):
            raise BadNumber("power", n)
        if n >= 0:
            return Quotient(poly_power(self.top, n), poly_power(self.bottom, n))
        if is_nothing(self):
            raise ByZero(0)
        return Quotient(poly_power(self.bottom, -n), poly_power(self.top, -n))

    def at(self, point):
        """The value at a point, a ratio."""
        if not is_point(point, self.size):
            raise BadNumber("point", point)
        below = self.bottom.at(point)
        if below[0] == 0:
            raise ByZero(0)
        return ratio_over(self.top.at(point), below)


def same(f, g):
    """Whether two quotients tell the same where they tell anything."""
    return f.top * g.bottom == g.top * f.bottom


def is_nothing(f):
    """Whether a quotient is 0."""
    return f.top.terms == ()


def number_of(size, ratio):
    """The quotient in so many letters that is this ratio."""
    check_size(size)
    if not is_ratio(ratio):
        raise BadNumber("ratio", ratio)
    return Quotient(number_poly(size, ratio), number_poly(size, 1))


def letter_of(size, j):
    """The quotient in so many letters that is the letter with the index j."""
    check_size(size)
    if not is_index(j, size):
        raise BadNumber("letter", j)
    exponents = tuple([1 if at == j else 0 for at in range(size)])
    return Quotient(Poly(size, [(exponents, 1)]), number_poly(size, 1))


def put_in(f, size, rows):
    """The quotient with a monomial of new letters, told by its exponents, for each letter."""
    if not is_list(rows) or len(rows) != f.size or not all([is_exponents(row, size) for row in rows]):
        raise BadNumber("rows", rows)
    top = moved_terms(f.top, size, rows)
    bottom = moved_terms(f.bottom, size, rows)
    least = least_exponents(top + bottom)
    return Quotient(Poly(size, lowered(top, least)), Poly(size, lowered(bottom, least)))


def monomial_of(f):
    """The pair (exponents, ratio) of the monomial that a quotient is, None if it is not told as one."""
    if len(f.top.terms) != 1 or len(f.bottom.terms) != 1:
        return None
    above, number = f.top.terms[0]
    below, divisor = f.bottom.terms[0]
    return (tuple([a - b for a, b in zip(above, below)]), ratio_over(number, divisor))


def check_size(size):
    """Raises the error that is due unless size is a number of letters."""
    if not is_whole(size) or size < 0:
        raise BadNumber("size", size)


def is_exponents(row, size):
    """Whether a value is a tuple of so many integers."""
    return isinstance(row, tuple) and len(row) == size and are_integers(row)


def number_poly(size, ratio):
    """The polynomial in so many letters that is this ratio."""
    return Poly(size, [((0,) * size, ratio)])


def poly_power(poly, n):
    """The power n of a polynomial, n from 0 on."""
    result = number_poly(poly.size, 1)
    for _ in range(n):
        result = result * poly
    return result


def least_exponents(terms):
    """The least exponent of each letter in any of the terms, of which there is one."""
    least = list(terms[0][0])
    for exponents, ratio in terms:
        least = [min(a, b) for a, b in zip(least, exponents)]
    return least


def form_scale(terms, first):
    """(many, shared): the ratio many / shared makes the numbers of terms integers without a common
    divisor, and first above 0."""
    many = common_bottom([ratio for exponents, ratio in terms])
    # No number has a factor both above and below, so the tops alone tell the common divisor.
    shared = 0
    for exponents, ratio in terms:
        shared = gcd(shared, ratio[0])
    if first[0] < 0:
        shared = -shared
    return (many, shared)


def brought(poly, scale, least):
    """The polynomial times the scale, and divided by the monomial with the exponents least."""
    many, shared = scale
    whole = [(exponents, ratio[0] // shared * (many // ratio[1])) for exponents, ratio in poly.terms]
    return Poly(poly.size, lowered(whole, least))


def lowered(terms, least):
    """The terms divided by the monomial with the exponents least."""
    return [(tuple([a - b for a, b in zip(exponents, least)]), ratio) for exponents, ratio in terms]


def moved_terms(poly, size, rows):
    """The terms of the polynomial with monomials put in for its letters."""
    return [(tuple(sum_of_rows(exponents, rows, size)), ratio) for exponents, ratio in poly.terms]
