"""Powers of letters that fit told ratios, by the powers of a coprime base."""

from allscales.coprime import coprime_parts, powers_in, wholes_of
from allscales.echelon import identity, transposed
from allscales.exact import as_ratio, is_ratio
from allscales.matrices import Answer, ratio_answer


def is_above(value):
    """Whether a value is a ratio above 0."""
    return is_ratio(value) and as_ratio(value)[0] > 0


def is_inputs(value, many):
    """Whether a value is a tuple of so many ratios above 0."""
    return isinstance(value, tuple) and len(value) == many and all([is_above(item) for item in value])


def is_measurement(row, many):
    """Whether a value is a pair of inputs, so many of them, and a ratio."""
    return isinstance(row, tuple) and len(row) == 2 and is_inputs(row[0], many) and is_ratio(row[1])


def lowest_inputs(inputs):
    """Inputs with all ratios in lowest terms."""
    return tuple([as_ratio(item) for item in inputs])


def fitted_powers(rows, many):
    """(base, found): powers of many letters that lead, in each row, from the ratios of the letters to the last one.

    base is a coprime base of all ratios. found is an Answer of these powers; or a Bar with weights
    for each row, and in it for each number of base.
    """
    base = coprime_parts(wholes_of([ratio for row in rows for ratio in row]))
    equations = []
    for row in rows:
        equations.extend(transposed([powers_in(ratio, base) for ratio in row]))
    if equations == []:
        return (base, Answer([(0, 1)] * many, identity(many)))
    return (base, ratio_answer([row[:-1] for row in equations], [row[-1] for row in equations]))


def shared_out(weights, many):
    """The weights as tuples of so many each."""
    return [weights[at:at + many] for at in range(0, len(weights), many)]
