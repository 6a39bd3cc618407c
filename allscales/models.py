"""Things and their models: which factors of the letters carry all rules over."""

from allscales.coprime import coprime_parts, powers_in, wholes_of
from allscales.echelon import identity, kernel_rows, sum_of_rows, transposed
from allscales.errors import BadMatrix, BadNumber
from allscales.exact import as_ratio, as_tuples, is_list, is_ratio
from allscales.matrices import Bar, ratio_answer
from allscales.ones import check_letters
from allscales.powers import product_value


class Carried:
    """The factors of all letters, None for open ones, and the basis of all changes that keep the told letters."""

    def __init__(self, factors, changes):
        self.factors = as_tuples(factors)
        self.changes = as_tuples(changes)


class Gap:
    """A group of letters with told factors, for which the product of the factors to its powers is not 1."""

    def __init__(self, group):
        self.group = as_tuples(group)


def carried(exponents, factors):
    """What the told factors of letters settle, or a Gap if no factors of the others carry all rules over."""
    check_letters(exponents)
    given = checked_factors(factors, len(exponents))
    told = [j for j, factor in enumerate(given) if factor is not None]
    rows = [exponents[j] for j in told]
    numbers = [given[j] for j in told]
    group = gap_among(rows, numbers)
    if group is not None:
        powers = {j: item for j, item in zip(told, group)}
        return Gap([powers.get(j, 0) for j in range(len(exponents))])
    changes = kernel_rows(rows) if rows else identity(len(exponents[0]))
    whole = [settled_factor(row, rows, numbers) if factor is None else product_value([(factor, (1, 1))])
             for row, factor in zip(exponents, given)]
    return Carried(whole, changes)


def checked_factors(factors, many):
    """The factors in lowest terms, None where none is told, or the error that is due."""
    if not is_list(factors) or len(factors) != many:
        raise BadMatrix("factors")
    for value in factors:
        if value is not None and (not is_ratio(value) or as_ratio(value)[0] <= 0):
            raise BadNumber("factor", value)
    return [None if value is None else as_ratio(value) for value in factors]


def gap_among(rows, numbers):
    """A group of letters with exponents rows for which the product of the numbers to its powers is not 1, or None."""
    if rows == []:
        return None
    # The powers of a coprime base are added up, as the products themselves may be very long.
    base = coprime_parts(wholes_of(numbers))
    powers = [powers_in(number, base) for number in numbers]
    for group in kernel_rows(transposed(rows)):
        if any(sum_of_rows(group, powers, len(base))):
            return group
    return None


def settled_factor(row, rows, numbers):
    """The power value of the factor of a letter, told its exponents and those of letters with numbers; None if open."""
    if not any(row):
        return product_value([])
    if rows == []:
        return None
    found = ratio_answer(transposed(rows), row)
    if isinstance(found, Bar):
        return None
    return product_value(list(zip(numbers, found.spot)))
