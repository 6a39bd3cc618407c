"""Rules that are one product of powers of their inputs."""

from allscales.errors import BadNumber
from allscales.exact import as_tuples, is_list
from allscales.fitting import fitted_powers, shared_out
from allscales.matrices import Bar
from allscales.records import Fitting, changes_between, checked_rows


class Unpowered:
    """Weights of the rows, and of the numbers of a coprime base, that show that no powers fit."""

    def __init__(self, base, weights):
        self.base = as_tuples(base)
        self.weights = as_tuples(weights)


def power_rule(rows):
    """All powers of the inputs with which values are their product times one number, or Unpowered."""
    if not is_list(rows) or len(rows) == 0:
        raise BadNumber("rows", rows)
    many = letters_in(rows[0])
    given = checked_rows(rows, many, True)
    base, found = fitted_powers([changes_between(given[0], row) for row in given[1:]], many)
    if isinstance(found, Bar):
        return Unpowered(base, shared_out(found.weights, len(base)))
    return Fitting(found.spot, found.basis)


def letters_in(row):
    """How many inputs a row tells; at least 1, also for what is no row."""
    if isinstance(row, tuple) and len(row) == 2 and isinstance(row[0], tuple):
        return max(1, len(row[0]))
    return 1
