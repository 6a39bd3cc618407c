"""Answers of equations between exponents: in integers, or in ratios where roots are let.

Both kinds take the same: for each unknown a row of ratios, its multiples in many equations and
behind them what it adds to what is asked for, which asked numbers are.
"""

from allscales.echelon import combined, hermite_rows, multiples_in, pivot_of, reduced, taken_in
from allscales.exact import lowest
from allscales.linear import cleared, least_multiple, span_of, whole_row
from allscales.matrices import whole_barring


class WholeAnswers:
    """Answers in integers."""

    def __init__(self, rows, many, asked):
        found = hermite_rows([tops_of(row) for row in rows])
        self.many = many
        self.asked = asked
        self.steps = [row for row in found if any(row[:many])]
        self.free = [row[many:] for row in found if not any(row[:many])]

    def bar_for(self, right):
        """Weights of the equations that show that there is no answer, None if there is one."""
        steps = [row[:self.many] for row in self.steps]
        multiples, rest = multiples_in(steps, tops_of(right))
        if not any(rest):
            return None
        return whole_barring(steps, len(multiples), rest)

    def spot_for(self, right, start):
        """What is asked for, start for unknowns that are 0, in the one answer with the least numbers at pivots."""
        multiples, rest = multiples_in(self.steps, tops_of(right) + [0] * self.asked)
        spot = [a - b for a, b in zip(tops_of(start), rest[self.many:])]
        for row in self.free:
            at = pivot_of(row)
            spot = combined(1, spot, -(spot[at] // row[at]), row)
        return spot

    def belongs(self, row):
        """Whether a row of ratios belongs to the differences of answers."""
        return not any(multiples_in(self.free, tops_of(row))[1])

    def basis_rows(self):
        """The rows of the basis of the differences of what is asked for."""
        return self.free


class RatioAnswers:
    """Answers in ratios."""

    def __init__(self, rows, many, asked):
        # One more column tells by how much a row that is cleared has been multiplied.
        found = span_of([least_multiple(row) + [0] for row in rows])
        self.many = many
        self.asked = asked
        self.steps = [row for row in found if any(row[:many])]
        self.free = [row[many:-1] for row in found if not any(row[:many])]

    def bar_for(self, right):
        """Weights of the equations that show that there is no answer, None if there is one."""
        steps = [row[:self.many] for row in self.steps]
        rest = cleared(steps, least_multiple(right))
        if not any(rest):
            return None
        first = pivot_of(rest)
        weights = [(0, 1)] * self.many
        weights[first] = (1, 1)
        for row in steps:
            at = pivot_of(row)
            weights[at] = lowest(-row[first], row[at])
        return weights

    def spot_for(self, right, start):
        """What is asked for, start for unknowns that are 0, in the one answer with 0 at pivots."""
        scale, row = whole_row(right + start)
        ahead = row[:self.many]
        rest = cleared(self.steps, ahead + [-item for item in row[self.many:]] + [scale])
        rest = cleared([[0] * self.many + row + [0] for row in self.free], rest)
        return [lowest(-item, rest[-1]) for item in rest[self.many:-1]]

    def belongs(self, row):
        """Whether a row of ratios belongs to the differences of answers."""
        return not any(cleared(self.free, least_multiple(row)))

    def basis_rows(self):
        """The rows of the basis of the differences of what is asked for."""
        return [[lowest(item, row[pivot_of(row)]) for item in row] for row in self.free]


def tops_of(ratios):
    """The integers that ratios without bottoms are."""
    return [top for top, bottom in ratios]


def answers_for(rows, many, asked, roots):
    """The answers of equations in integers, or in ratios if roots are let."""
    if roots:
        return RatioAnswers(rows, many, asked)
    return WholeAnswers(rows, many, asked)


def factor_with(steps, column, rights):
    """(factors, step): the integers with which a new unknown gives answers for each of the right sides.

    They are one factor for each side, and all that differ from it by multiples of step. steps are
    the Hermite form of the rows of multiples of the old unknowns, with 0 behind them, and column has
    the multiples of the new one. None if there are no answers for some side.
    """
    many = len(column)
    rows = reduced(taken_in(steps, column + [1]))
    step = 0
    if not any(rows[-1][:many]):
        step = rows[-1][many]
    factors = []
    for right in rights:
        rest = multiples_in(rows, right + [0])[1]
        if any(rest[:many]):
            return None
        factors.append(-rest[many])
    return (factors, step)
