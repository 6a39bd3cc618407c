"""Spans of rows of integers over the ratios: each is told by its reduced rows.

Reduced rows have pivots, above 0, that stand farther right from row to row; each row has no common
divisor, and 0 at the pivots of all others. A span has just one such list of rows.
"""

from math import gcd

from allscales.echelon import combined, pivot_of
from allscales.exact import common_bottom


def primitive(row):
    """The multiple of a row, not of zeros, that has no common divisor and a pivot above 0."""
    shared = 0
    for item in row:
        shared = gcd(shared, item)
    if row[pivot_of(row)] < 0:
        shared = -shared
    return [item // shared for item in row]


def without_item(row, at, held):
    """A multiple, by an integer above 0, of the row, less one of the held row, with 0 at at, the held pivot."""
    if row[at] == 0:
        return row
    shared = gcd(row[at], held[at])
    return combined(held[at] // shared, row, -(row[at] // shared), held)


def cleared(reduced_rows, row):
    """A multiple, by an integer above 0, of the row, less multiples of the reduced rows, with 0 at their pivots."""
    for held in reduced_rows:
        row = without_item(row, pivot_of(held), held)
    return row


def span_of(rows):
    """The reduced rows of the span of some rows."""
    found = []
    for row in rows:
        row = cleared(found, row)
        if any(row):
            row = primitive(row)
            at = pivot_of(row)
            found = [held if held[at] == 0 else primitive(without_item(held, at, row)) for held in found] + [row]
    places = sorted([(pivot_of(row), k) for k, row in enumerate(found)])
    return [found[k] for at, k in places]


def rank_of(rows):
    """How many independent rows there are among some rows."""
    return len(span_of(rows))


def whole_row(ratios):
    """(scale, row): the least integer above 0 that makes all ratios integers, and these integers."""
    scale = common_bottom(ratios)
    return (scale, [top * (scale // bottom) for top, bottom in ratios])


def least_multiple(ratios):
    """The row of integers that is the least multiple of some ratios by an integer above 0."""
    return whole_row(ratios)[1]
