"""Ratios above 0 told as products of powers: of coprime integers, and of each other."""

from allscales.coprime import coprime_parts, powers_in, wholes_of
from allscales.echelon import identity, kernel_rows, transposed
from allscales.errors import BadNumber
from allscales.exact import as_ratio, as_tuples, is_ratio
from allscales.matrices import Answer, ratio_answer, whole_answer


class Powers:
    """Powers of ratios with this product: spot, and the basis of all powers whose product is 1."""

    def __init__(self, spot, basis):
        self.spot = as_tuples(spot)
        self.basis = as_tuples(basis)


class NoPowers:
    """Weights of the powers of a coprime base that show that there are no such powers."""

    def __init__(self, base, weights):
        self.base = as_tuples(base)
        self.weights = as_tuples(weights)


def coprime_base(ratios):
    """Coprime integers above 1 of which each of the ratios is a product of powers."""
    return tuple(coprime_parts(wholes_of(checked_ratios(ratios))))


def relations(ratios):
    """The basis of all rows of powers of the ratios whose product is 1."""
    given = checked_ratios(ratios)
    return as_tuples(relation_rows(power_rows(given, coprime_parts(wholes_of(given)))))


def as_powers(ratio, ratios, roots=False):
    """Powers of the ratios, integers or with roots ratios, whose product is the ratio, or NoPowers."""
    whole = checked_ratios([ratio])[0]
    given = checked_ratios(ratios)
    base = coprime_parts(wholes_of([whole] + given))
    if base == []:
        return Powers([(0, 1) if roots else 0] * len(given), identity(len(given)))
    rows = transposed(power_rows(given, base))
    right = powers_in(whole, base)
    found = ratio_answer(rows, right) if roots else whole_answer(rows, right)
    if isinstance(found, Answer):
        return Powers(found.spot, found.basis)
    return NoPowers(base, found.weights)


def checked_ratios(ratios):
    """The ratios in lowest terms, or the error for the first one that is not a ratio above 0."""
    for value in ratios:
        if not is_ratio(value) or as_ratio(value)[0] <= 0:
            raise BadNumber("ratio", value)
    return [as_ratio(value) for value in ratios]


def power_rows(ratios, base):
    """For each ratio the row of the powers of a coprime base that it is."""
    return [powers_in(ratio, base) for ratio in ratios]


def relation_rows(rows):
    """The basis of all rows of integers whose sums of multiples of these rows are zeros."""
    # Ratios that are all 1 have no base, and rows without items.
    if rows[0] == []:
        return identity(len(rows))
    return kernel_rows(transposed(rows))
