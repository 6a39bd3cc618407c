"""Polynomials in letters without names: sums of terms with exact numbers."""

from allscales.echelon import dot
from allscales.errors import BadNumber
from allscales.exact import (are_integers, as_ratio, common_bottom, is_index, is_list, is_ratio, is_whole, lowest,
                             ratio_product, ratio_sum, whole_power)


class Poly:
    """The sum of terms, pairs (exponents, ratio), in so many letters."""

    def __init__(self, size, terms):
        if not is_whole(size) or size < 0:
            raise BadNumber("size", size)
        sums = {}
        for term in terms:
            if not is_term(term, size):
                raise BadNumber("term", term)
            sums[term[0]] = ratio_sum(sums.get(term[0], (0, 1)), as_ratio(term[1]))
        self.size = size
        self.terms = tuple([(exponents, ratio) for exponents, ratio in sorted(sums.items()) if ratio[0] != 0])

    def __add__(self, other):
        return Poly(self.size, list(self.terms) + list(other.terms))

    def __sub__(self, other):
        return self + (-other)

    def __mul__(self, other):
        sums = {}
        for one, ratio in self.terms:
            for two, factor in other.terms:
                both = tuple([a + b for a, b in zip(one, two)])
                sums[both] = ratio_sum(sums.get(both, (0, 1)), ratio_product(ratio, factor))
        return Poly(self.size, list(sums.items()))

    def __neg__(self):
        return Poly(self.size, [(exponents, (-ratio[0], ratio[1])) for exponents, ratio in self.terms])

    def __eq__(self, other):
        return isinstance(other, Poly) and self.size == other.size and self.terms == other.terms

    def at(self, point):
        """The value at a point, a ratio."""
        if not is_point(point, self.size):
            raise BadNumber("point", point)
        return value_at(self.terms, [as_ratio(item) for item in point])

    def slope(self, j):
        """The derivative by the letter with the index j."""
        if not is_index(j, self.size):
            raise BadNumber("letter", j)
        return Poly(self.size, [sloped(exponents, ratio, j) for exponents, ratio in self.terms if exponents[j] > 0])

    def parts(self, rows):
        """The pairs (degrees, Poly) of the terms with these degrees, one degree for each row."""
        groups = {}
        for exponents, ratio in self.terms:
            degrees = tuple([dot(row, exponents) for row in rows])
            groups.setdefault(degrees, []).append((exponents, ratio))
        return tuple([(degrees, Poly(self.size, groups[degrees])) for degrees in sorted(list(groups))])


def is_term(term, size):
    """Whether a value is a term in so many letters."""
    return (isinstance(term, tuple) and len(term) == 2 and isinstance(term[0], tuple) and len(term[0]) == size
            and are_integers(term[0]) and min(list(term[0]) + [0]) == 0 and is_ratio(term[1]))


def is_point(point, size):
    """Whether a value is a point for so many letters."""
    return is_list(point) and len(point) == size and all([is_ratio(item) for item in point])


def sloped(exponents, ratio, j):
    """The derivative of one term by a letter that it has."""
    lowered = exponents[:j] + (exponents[j] - 1,) + exponents[j + 1:]
    return (lowered, (exponents[j] * ratio[0], ratio[1]))


def value_at(terms, point):
    """The sum of the terms at a point of ratios in lowest terms."""
    # All terms get one bottom, so that only their sum has to be brought to lowest terms.
    numbers = common_bottom([ratio for exponents, ratio in terms])
    bottom = numbers
    factors = []
    for j, item in enumerate(point):
        powers = [exponents[j] for exponents, ratio in terms]
        most = max(powers + [0])
        bottom = bottom * whole_power(item[1], most)
        factors.append({n: whole_power(item[0], n) * whole_power(item[1], most - n) for n in sorted(set(powers))})
    total = 0
    for exponents, ratio in terms:
        product = ratio[0] * (numbers // ratio[1])
        for j, n in enumerate(exponents):
            product = product * factors[j][n]
        total = total + product
    return lowest(total, bottom)
