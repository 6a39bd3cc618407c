"""Letters that are called 1, and put back."""

from allscales.echelon import dot, hermite_pair, kernel_rows, multiples_in, steps_of, sum_of_rows, transposed
from allscales.errors import BadMatrix, BadNumber
from allscales.exact import as_tuples, is_index, is_list
from allscales.matrices import whole_barring
from allscales.polys import Poly
from allscales.quotients import Quotient, least_exponents, lowered
from allscales.worth import check_result, is_letters


class Tied:
    """A group of letters that can not be called 1 at once."""

    def __init__(self, group):
        self.group = as_tuples(group)


class Parting:
    """A group of the one exponents (which is 0) or the other ones (which is 1) that the others do not have."""

    def __init__(self, group, which):
        self.group = as_tuples(group)
        self.which = which


class Barred:
    """A term that no powers of the letters called 1 bring to its exponents, and weights that show it."""

    def __init__(self, part, term, weights):
        self.part = part
        self.term = term
        self.weights = as_tuples(weights)


def together(exponents, letters):
    """None if some letters may be called 1 at once, otherwise a Tied."""
    check_letters(exponents)
    check_indices(letters, len(exponents))
    return tie_among(exponents, letters)


def tie_among(exponents, letters):
    """A Tied with a group of these letters alone, None if there is none but zeros."""
    if len(letters) == 0:
        return None
    left = kernel_rows(transposed([exponents[j] for j in letters]))
    if left == []:
        return None
    group = [0] * len(exponents)
    for j, item in zip(letters, left[0]):
        group[j] = item
    return Tied(group)


def called_one(f, letters):
    """The quotient in which some letters are replaced by 1."""
    check_indices(letters, f.size)
    return Quotient(without_letters(f.top, letters), without_letters(f.bottom, letters))


def without_letters(poly, letters):
    """The polynomial in which some letters are replaced by 1."""
    terms = [(tuple([0 if j in letters else n for j, n in enumerate(exponents)]), ratio)
             for exponents, ratio in poly.terms]
    return Poly(poly.size, terms)


def alike_units(one, other):
    """None if two exponents of the same letters have the same groups, otherwise a Parting."""
    check_letters(one)
    check_letters(other)
    if len(one) != len(other):
        raise BadMatrix("exponents")
    sides = [transposed(one), transposed(other)]
    for which, side in enumerate(sides):
        for group in kernel_rows(side):
            if any([dot(row, group) for row in sides[1 - which]]):
                return Parting(group, which)
    return None


def put_back(f, exponents, result, letters):
    """The quotient with the letters that were called 1 put back, a Tied, or a Barred."""
    check_letters(exponents, f.size)
    check_result(result, len(exponents[0]))
    check_indices(letters, len(exponents))
    tie = tie_among(exponents, letters)
    if tie is not None:
        return tie
    left, steps = base_steps(exponents, letters)
    wanted = sum_of_rows(f.bottom.terms[0][0], exponents, len(result))
    polys = []
    for part, poly, due in (("bottom", f.bottom, wanted), ("top", f.top, [a + b for a, b in zip(wanted, result)])):
        terms = []
        for term, (powers, ratio) in enumerate(poly.terms):
            lack = [a - b for a, b in zip(due, sum_of_rows(powers, exponents, len(result)))]
            multiples, rest = multiples_in(steps, lack)
            if any(rest):
                return Barred(part, term, whole_barring(steps, len(multiples), rest))
            terms.append((with_powers(powers, letters, sum_of_rows(multiples, left, len(letters))), ratio))
        polys.append(terms)
    least = least_exponents(polys[1] + polys[0])
    bottom, top = [Poly(f.size, lowered(terms, least)) for terms in polys]
    return Quotient(top, bottom)


def base_steps(exponents, letters):
    """(left, steps): steps is the Hermite form of the exponents of these letters, left times them is steps."""
    if len(letters) == 0:
        return ([], [])
    left, middle = hermite_pair([exponents[j] for j in letters])
    return (left, steps_of(middle))


def with_powers(powers, letters, more):
    """The powers of all letters in a term with more powers of some letters."""
    total = list(powers)
    for j, item in zip(letters, more):
        total[j] = total[j] + item
    return tuple(total)


def check_letters(exponents, many=None):
    """Raises the error that is due unless exponents are those of so many letters, of any number without many."""
    if not is_letters(exponents) or (many is not None and len(exponents) != many):
        raise BadMatrix("exponents")


def check_indices(letters, many):
    """Raises the error that is due unless letters is a list of unlike indices of letters."""
    if not is_list(letters) or not all([is_index(j, many) for j in letters]):
        raise BadNumber("letters", letters)
    if len(set(letters)) != len(letters):
        raise BadNumber("letters", letters)
