"""On what a rule can hang: which letters can change the value of a covariant rule, and how."""

from allscales.echelon import identity, pivot_of, transposed
from allscales.errors import BadMatrix, BadNumber
from allscales.exact import are_integers, as_tuples, is_index, is_list, lowest
from allscales.linear import least_multiple, span_of
from allscales.matrices import Answer, check_matrix, index_of, whole_answer
from allscales.polys import Poly
from allscales.quotients import Quotient


class Zero:
    """A change that keeps all letters and moves the value: each covariant rule is 0."""

    def __init__(self, change):
        self.change = as_tuples(change)


class Hangs:
    """For each letter its kind, and its power, a group, or a change that shows it."""

    def __init__(self, kinds, powers, groups, changes):
        self.kinds = as_tuples(kinds)
        self.powers = as_tuples(powers)
        self.groups = as_tuples(groups)
        self.changes = as_tuples(changes)


def hangs(exponents, result):
    """How covariant rules can hang on each letter, or Zero if each of them is 0."""
    check_exponents(exponents, result)
    many = len(exponents)
    # A row for each base unit: its items of the letters and of the value, and beside them a unit row,
    # which tells in the reduced rows the change that has these products with the letters and the value.
    rows = [list(row) + [end] + unit for row, end, unit in zip(transposed(exponents), result, identity(len(result)))]
    steps = [row for row in span_of(rows) if pivot_of(row) <= many]
    if steps and pivot_of(steps[-1]) == many:
        return Zero(steps[-1][many + 1:])
    kinds = ["free"] * many
    powers = [None] * many
    changes = [None] * many
    groups = letter_groups(steps, many)
    for row in steps:
        at = pivot_of(row)
        if groups[at] is None:
            powers[at] = lowest(row[many], row[at])
            kinds[at] = "none" if row[many] == 0 else "fixed"
            changes[at] = row[many + 1:]
    return Hangs(kinds, powers, groups, changes)


def letter_groups(steps, many):
    """For each letter a group with an item other than 0 at it, None if there is none; steps are reduced rows."""
    pivots = [pivot_of(row) for row in steps]
    groups = [None] * many
    for free in range(many):
        if free not in pivots:
            # The letters at the pivots make up for one letter that has none.
            ratios = [(0, 1)] * many
            ratios[free] = (1, 1)
            for at, row in zip(pivots, steps):
                ratios[at] = lowest(-row[free], row[at])
            group = least_multiple(ratios)
            for at, item in enumerate(group):
                if item != 0 and groups[at] is None:
                    groups[at] = group
    return groups


def quotient_rules(exponents, result):
    """The integer powers of the letters that give the value's exponents, or a Bar if there are none."""
    check_exponents(exponents, result)
    return whole_answer(transposed(exponents), result)


def moving_rule(exponents, result, letter):
    """A quotient rule that hangs on a free letter by more than one power, None if there is none."""
    check_exponents(exponents, result)
    if not is_index(letter, len(exponents)):
        raise BadNumber("letter", letter)
    found = whole_answer(transposed(exponents), result)
    if isinstance(found, Answer):
        for group in found.basis:
            if group[letter] != 0:
                return sum_of_monomials(found.spot, [a + b for a, b in zip(found.spot, group)])
    return None


def sum_of_monomials(one, other):
    """The quotient that is the sum of two monomials with exponents of any sign."""
    least = [min(a, b, 0) for a, b in zip(one, other)]
    top = [(tuple([item - low for item, low in zip(row, least)]), 1) for row in (one, other)]
    return Quotient(Poly(len(one), top), Poly(len(one), [(tuple([-low for low in least]), 1)]))


def whole_share(exponents):
    """The integer N such that one in N of the exponents of a value that rules can have has quotient rules."""
    check_matrix(exponents, "exponents")
    return index_of(exponents)


def check_exponents(exponents, result):
    """Raises the error that is due unless exponents and result are those of letters and of a value."""
    check_matrix(exponents, "exponents")
    if not is_list(result) or len(result) != len(exponents[0]) or not are_integers(result):
        raise BadMatrix("result")
