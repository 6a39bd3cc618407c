"""Points [25] and [26]: sizes that are not known."""

import itertools
import random
import unittest
from fractions import Fraction
from math import lcm

from allscales.conversions import Loose, Ring, Sizes, loose_ends, size_settled, sizes
from allscales.errors import BadMatrix, BadNumber
from allscales.powers import power_value
from lattices import determinant, rank_of
from support import NO_INTEGERS, NO_RATIOS, called, fraction, in_other_terms, is_lowest, pair, raised, shown


def fits(rows):
    """Whether the determinants of all square parts are from -12 to 12."""
    for many in range(1, min(len(rows), len(rows[0])) + 1):
        for places in itertools.combinations(range(len(rows)), many):
            for columns in itertools.combinations(range(len(rows[0])), many):
                if abs(determinant([[rows[place][at] for at in columns] for place in places])) > 12:
                    return False
    return True


def some_rows(source, most=5):
    """Random rows as callers may pass them: with rows of zeros, and a row twice, now and then."""
    while True:
        width = source.randint(1, 4)
        limit = source.choice((1, 2, 4))
        rows = [[source.randint(-limit, limit) for _ in range(width)] for _ in range(source.randint(1, most))]
        if source.random() < 0.2:
            rows[-1] = list(rows[0])
        if source.random() < 0.2:
            rows[source.randrange(len(rows))] = [0] * width
        if fits(rows):
            return rows


def some_ratio(source):
    """A random Fraction above 0, now and then one with a root, or with 30 digits."""
    limit = source.choice((4, 12, 10 ** 30))
    ratio = Fraction(source.randint(1, limit), source.randint(1, limit))
    return ratio if limit > 12 else ratio ** source.choice((1, 1, 2, 3))


def ratios_that_hold(source, rows):
    """Random Fractions for which the equations hold together."""
    ratios = []
    for k, row in enumerate(rows):
        if rank_of(rows[:k + 1]) > (rank_of(rows[:k]) if k else 0):
            ratios.append(some_ratio(source))
        else:
            ratios.append(None)
    chosen = [k for k, ratio in enumerate(ratios) if ratio is not None]
    for k, ratio in enumerate(ratios):
        if ratio is None:
            multiples = solved([rows[at] for at in chosen], rows[k])
            # With the power 12 in all of them, each root that comes is a ratio.
            if any([many.denominator > 1 for many in multiples]):
                return ratios_that_hold(source, rows) if source.random() < 0.9 else [Fraction(1)] * len(rows)
            ratios[k] = Fraction(1)
            for at, many in zip(chosen, multiples):
                ratios[k] *= ratios[at] ** int(many)
    return ratios


def solved(rows, row):
    """The Fractions whose multiples of independent rows add up to a row, None if there are none."""
    table = [[Fraction(other[at]) for other in rows] + [Fraction(row[at])] for at in range(len(row))]
    done = 0
    for column in range(len(rows)):
        places = [k for k in range(done, len(table)) if table[k][column] != 0]
        table[done], table[places[0]] = table[places[0]], table[done]
        table[done] = [item / table[done][column] for item in table[done]]
        for k in range(len(table)):
            if k != done:
                many = table[k][column]
                table[k] = [a - many * b for a, b in zip(table[k], table[done])]
        done += 1
    if any([line[-1] != 0 for line in table[done:]]):
        return None
    return [line[-1] for line in table[:done]]


def product_equals(case, values, exponents, wanted):
    """Fails unless the product of power values to some exponents is a power value."""
    k = lcm(wanted[1], *[value[1] for value in values])
    product = Fraction(1)
    for value, exponent in zip(values, exponents):
        case.assertEqual(value[0], 1)
        product *= fraction(value[2]) ** (exponent * (k // value[1]))
    case.assertEqual(product, fraction(wanted[2]) ** (k // wanted[1]))


class Conversions(unittest.TestCase):
    def check_sizes(self, found, rows, ratios):
        self.assertIs(found.__class__, Sizes)
        self.assertEqual(list(found.__dict__), ["numbers"])
        self.assertIsInstance(found.numbers, tuple)
        self.assertEqual(len(found.numbers), len(rows[0]))
        for number in found.numbers:
            self.assertEqual(shown(power_value(*number)), shown(number))
        for row, ratio in zip(rows, ratios):
            product_equals(self, found.numbers, row, (1, 1, pair(ratio)))

    def check_ring(self, found, rows, ratios):
        self.assertIs(found.__class__, Ring)
        self.assertEqual(list(found.__dict__), ["weights", "product"])
        self.assertIsInstance(found.weights, tuple)
        self.assertEqual(len(found.weights), len(rows))
        self.assertTrue(all([weight.__class__ is int for weight in found.weights]))
        for at in range(len(rows[0])):
            self.assertEqual(sum([weight * row[at] for weight, row in zip(found.weights, rows)]), 0)
        product = Fraction(1)
        for weight, ratio in zip(found.weights, ratios):
            product *= ratio ** weight
        self.assertTrue(is_lowest(found.product))
        self.assertEqual(found.product, pair(product))
        self.assertNotEqual(product, 1)

    def check_settled(self, rows, ratios, given, row):
        found = called(self, size_settled, rows, given, row)
        if rank_of(rows + [list(row)]) > rank_of(rows):
            self.assertIs(found.__class__, Loose)
            self.assertEqual(list(found.__dict__), ["change"])
            self.assertIsInstance(found.change, tuple)
            self.assertTrue(all([item.__class__ is int for item in found.change]))
            for told in rows:
                self.assertEqual(sum([a * b for a, b in zip(told, found.change)]), 0)
            self.assertNotEqual(sum([a * b for a, b in zip(row, found.change)]), 0)
        else:
            self.assertEqual(shown(power_value(*found)), shown(found))
            values = sizes(rows, given).numbers
            product_equals(self, values, row, found)

    def test_plain(self):
        self.assertEqual(shown(sizes([[1, 1], [1, -1]], [6, (2, 3)])), shown(Sizes([(1, 1, (2, 1)), (1, 1, (3, 1))])))
        self.assertEqual(sizes([[2]], [2]).numbers, ((1, 2, (2, 1)),))
        self.assertEqual(sizes(((12,),), ((5, 7),)).numbers, ((1, 12, (5, 7)),))
        self.assertEqual(sizes([[-2], [3]], [(1, 4), 8]).numbers, ((1, 1, (2, 1)),))
        self.assertEqual(size_settled([[2, 2]], [9], (1, 1)), (1, 1, (3, 1)))
        self.assertEqual(size_settled([[2, 2]], [3], (-1, -1)), (1, 2, (1, 3)))
        self.assertEqual(size_settled([[2, 2]], [3], (0, 0)), (1, 1, (1, 1)))
        self.assertEqual(size_settled([[0]], [1], (0,)), (1, 1, (1, 1)))
        self.check_ring(sizes([[2], [3]], [4, 9]), [[2], [3]], [Fraction(4), Fraction(9)])
        self.check_ring(sizes([[0, 0]], [(1, 2)]), [[0, 0]], [Fraction(1, 2)])
        self.assertEqual(loose_ends([[2], [3]], [4, 8]), ())
        self.assertEqual(loose_ends([[2], [3]], [4, 9]), (0, 1))
        self.assertEqual(loose_ends([[1], [1], [1]], [2, 2, 3]), (2,))
        self.assertEqual(loose_ends([[1], [1], [1]], [2, 5, 3]), ())
        self.assertEqual(loose_ends([[0]], [3]), (0,))
        self.assertEqual(loose_ends([[0, 0], [0, 0]], [3, 1]), (0,))

    def test_equations_that_hold_together(self):
        source = random.Random(251)
        for _ in range(300):
            rows = some_rows(source)
            ratios = ratios_that_hold(source, rows)
            given = [in_other_terms(source, pair(ratio)) for ratio in ratios]
            self.check_sizes(called(self, sizes, rows, given), rows, ratios)
            self.check_sizes(sizes(tuple([tuple(row) for row in rows]), tuple(given)), rows, ratios)
            self.assertEqual(shown(called(self, loose_ends, rows, given)), shown(()))
            limit = source.choice((2, 60))
            self.check_settled(rows, ratios, given, tuple([source.randint(-limit, limit) for _ in rows[0]]))
            multiples = [source.randint(-3, 3) for _ in rows]
            row = tuple([sum([many * told[at] for many, told in zip(multiples, rows)]) for at in range(len(rows[0]))])
            self.check_settled(rows, ratios, given, row)
            shared = max([abs(item) for item in row] + [1])
            if all([item % shared == 0 for item in row]):
                self.check_settled(rows, ratios, given, tuple([item // shared for item in row]))

    def test_equations_that_contradict(self):
        source = random.Random(252)
        met = 0
        while met < 150:
            rows = some_rows(source)
            ratios = ratios_that_hold(source, rows)
            at = source.randrange(len(rows))
            ratios[at] *= 1 + Fraction(1, source.choice((1, 7, 10 ** 30)))
            given = [in_other_terms(source, pair(ratio)) for ratio in ratios]
            others = rows[:at] + rows[at + 1:]
            # The turned equation matters exactly if the others tell its row.
            free = rank_of(rows) > (rank_of(others) if others else 0)
            found = called(self, sizes, rows, given)
            if free:
                self.check_sizes(found, rows, ratios)
                continue
            met += 1
            self.check_ring(found, rows, ratios)
            row = tuple([source.randint(-60, 60) for _ in rows[0]])
            self.check_ring(called(self, size_settled, rows, given, row), rows, ratios)
            ends = []
            for k in range(len(rows)):
                left = rows[:k] + rows[k + 1:]
                if not left or sizes(left, given[:k] + given[k + 1:]).__class__ is Sizes:
                    ends.append(k)
            self.assertEqual(shown(called(self, loose_ends, rows, given)), shown(tuple(ends)))
            self.assertIn(at, ends)

    def test_contradictions_far_from_the_others(self):
        rows = [[1, 1, 0, 0], [2, 2, 0, 0], [0, 0, 1, -1], [0, 0, 3, 0]]
        found = sizes(rows, [3, 10, 5, 7])
        self.check_ring(found, rows, [Fraction(item) for item in (3, 10, 5, 7)])
        self.assertEqual(found.weights[2:], (0, 0))
        self.assertEqual(loose_ends(rows, [3, 10, 5, 7]), (0, 1))
        self.check_ring(size_settled(rows, [3, 10, 5, 7], (0, 0, 1, 0)), rows, [Fraction(k) for k in (3, 10, 5, 7)])
        self.assertEqual(size_settled(rows, [3, 9, 5, 7], (0, 0, 1, 0)), (1, 3, (7, 1)))
        two = rows + [[0, 0, 1, 0]]
        self.assertEqual(loose_ends(two, [3, 10, 5, 7, 2]), ())
        self.assertEqual(loose_ends(two, [3, 9, 5, 7, 2]), (3, 4))

    def test_roots_up_to_twelve(self):
        for k in range(1, 13):
            self.assertEqual(sizes([[k]], [2]).numbers, ((1, k, (2, 1)),))
            self.assertEqual(size_settled([[k]], [2], (60,)), power_value(1, k, 2 ** 60))
        rows = [[3, 1], [0, 4]]
        self.check_sizes(sizes(rows, [2, 3]), rows, [Fraction(2), Fraction(3)])
        self.assertEqual(size_settled(rows, [2, 3], (1, 0)), (1, 12, (16, 3)))

    def test_large_powers(self):
        rows = [[4, 1, 0, 0], [0, 3, 0, 0], [0, 0, 1, 0], [0, 0, 0, 1]]
        ratios = [(10 ** 30 - 1, 10 ** 29 + 9), (7, 10 ** 30 - 7), (10 ** 30 - 11, 3), 10 ** 29 + 7]
        found = size_settled(rows, ratios, (60, -59, 58, 57))
        product_equals(self, sizes(rows, ratios).numbers, (60, -59, 58, 57), found)


class Wrong(unittest.TestCase):
    def all_three(self, error, fields, rows, ratios, row=(1, 2)):
        raised(self, error, fields, sizes, rows, ratios)
        raised(self, error, fields, loose_ends, rows, ratios)
        raised(self, error, fields, size_settled, rows, ratios, row)

    def test_rows(self):
        wrong = [None, 5, "12", [], (), [[]], [[], []], [[1, 2], [3]], [[1, 2], 3], [1, 2], {}, [{}], [[1, 2], "34"]]
        wrong += [[[1, item]] for item in NO_INTEGERS]
        for rows in wrong:
            self.all_three(BadMatrix, ("rows",), rows, [1, 1])
            self.all_three(BadMatrix, ("rows",), rows, None, None)

    def test_ratios(self):
        rows = [[1, 2], [3, 4]]
        for ratios in (None, 5, "12", {1: 1, 2: 2}, [], [1], (1, 2, 3), [None], ()):
            self.all_three(BadNumber, ("ratios", ratios), rows, ratios)
            self.all_three(BadNumber, ("ratios", ratios), rows, ratios, None)
        for value in NO_RATIOS + (0, -1, (0, 3), (-1, 2)):
            self.all_three(BadNumber, ("ratio", value), rows, [value, None])
            self.all_three(BadNumber, ("ratio", value), rows, [1, value])
            self.all_three(BadNumber, ("ratio", value), rows, ((2, 4), value), None)

    def test_row(self):
        rows = [[1, 2], [1, 2]]
        wrong = [None, 5, "12", [1, 2], (), (1,), (1, 2, 3), {1: 1, 2: 2}] + [(1, item) for item in NO_INTEGERS]
        for row in wrong:
            raised(self, BadMatrix, ("row",), size_settled, rows, [1, 1], row)
            raised(self, BadMatrix, ("row",), size_settled, rows, [1, 2], row)


if __name__ == "__main__":
    unittest.main()
