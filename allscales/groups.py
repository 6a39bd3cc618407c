"""Groups: products of powers of letters that have no unit."""

from allscales.echelon import hermite_pair, hermite_rows, kernel_rows, pivot_of, sum_of_rows, transposed
from allscales.errors import BadNumber, TooMany, Unlike
from allscales.exact import as_tuples, is_index, is_list, is_whole, lowest
from allscales.linear import rank_of, span_of
from allscales.matrices import check_matrix
from allscales.quotients import put_in

MOST_GROUPS = 2000


class Groups:
    """The basis of all groups, new letters of which it makes the last ones, and the way back."""

    def __init__(self, basis, down, up):
        self.basis = as_tuples(basis)
        self.down = as_tuples(down)
        self.up = as_tuples(up)


def groups_of(A):
    """The groups of letters with the exponents A."""
    check_matrix(A, "exponents")
    # The rows that take A to its rows of zeros stand last, and are the basis of all groups.
    down, middle = hermite_pair(A)
    basis = [row for row, image in zip(down, middle) if not any(image)]
    return Groups(basis, down, hermite_pair(down)[0])


def in_groups(f, A):
    """The quotient of the groups of the basis that a quotient without unit is."""
    check_matrix(A, "exponents")
    if f.size != len(A):
        raise BadNumber("size", f.size)
    first = None
    for k, (exponents, ratio) in enumerate(f.top.terms + f.bottom.terms):
        unit = tuple(sum_of_rows(exponents, A, len(A[0])))
        if first is None:
            first = unit
        if unit != first:
            raise Unlike(k, first, unit)
    groups = groups_of(A)
    many = len(groups.basis)
    return put_in(f, many, [row[len(A) - many:] for row in groups.up])


def base_sets(A, whole=False):
    """All sets of letters that can be base units, wholly if whole is True."""
    check_matrix(A, "exponents")
    rank = rank_of(A)
    basis = hermite_rows(A)
    found = []
    for letters in sets_of(len(A), rank):
        rows = [A[j] for j in letters]
        if rank_of(rows) == rank and (not whole or hermite_rows(rows) == basis):
            found.append(letters)
    return tuple(found)


def sets_of(many, size):
    """All ascending tuples of so many indices below many, in ascending order."""
    found = [()]
    for _ in range(size):
        found = [old + (new,) for old in found for new in range(old[-1] + 1 if old else 0, many)]
    return found


def bar_of(A, letters):
    """A group of some letters alone, not all 0; None if their exponents are independent."""
    check_matrix(A, "exponents")
    check_indices(A, letters)
    if len(letters) == 0:
        return None
    left = kernel_rows(transposed([A[j] for j in letters]))
    if left == []:
        return None
    powers = {j: item for j, item in zip(letters, left[0])}
    return tuple([powers.get(j, 0) for j in range(len(A))])


def by_base(A, letters):
    """For each letter the powers of the base letters that have its unit."""
    check_matrix(A, "exponents")
    check_indices(A, letters)
    rows = [A[j] for j in letters]
    if rank_of(rows) != len(rows) or rank_of(A) != len(rows):
        raise BadNumber("letters", letters)
    # Beside the items of the base letters stand those of all letters; the reduced rows solve for them.
    steps = span_of(transposed(rows + list(A)))
    return tuple([tuple([lowest(row[len(rows) + j], row[pivot_of(row)]) for row in steps]) for j in range(len(A))])


def groups_within(A, most):
    """All groups of integers from -most to most, one of each and its opposite, in ascending order."""
    check_matrix(A, "exponents")
    if not is_whole(most) or most < 0:
        raise BadNumber("most", most)
    basis = kernel_rows(transposed(A))
    found = []
    # Rows that are begun: the sum so far, how many rows of the basis it has, the least one waits last.
    waiting = [([0] * len(A), 0)]
    while waiting:
        row, k = waiting.pop()
        if k < len(basis):
            waiting.extend(grown(basis, row, k, most)[::-1])
        elif any(row):
            found.append(tuple(row))
            if len(found) > MOST_GROUPS:
                raise TooMany("groups", len(found), MOST_GROUPS)
    return tuple(found)


def grown(basis, row, k, most):
    """The sums of a row and of multiples of the row k of the basis that may become groups, in ascending order.

    The items ahead of the next pivot do not change any more, so they have to be within the bounds;
    and the first item that is not 0 has to be above 0.
    """
    at = pivot_of(basis[k])
    end = pivot_of(basis[k + 1]) if k + 1 < len(basis) else len(row)
    step = basis[k][at]
    least = -((most + row[at]) // step)
    if not any(row):
        least = 0
    sums = []
    for many in range(least, (most - row[at]) // step + 1):
        new = [item + many * other for item, other in zip(row, basis[k])]
        if all([-most <= item <= most for item in new[:end]]):
            sums.append((new, k + 1))
    return sums


def check_indices(A, letters):
    """Raises the error that is due unless letters is an ascending list of indices of letters."""
    if not is_list(letters) or not all([is_index(j, len(A)) for j in letters]):
        raise BadNumber("letters", letters)
    if list(letters) != sorted(set(letters)):
        raise BadNumber("letters", letters)
