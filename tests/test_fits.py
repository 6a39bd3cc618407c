"""Points [88] and [90]: the units of a value that fit a record, and rules of powers."""

import random
import unittest
from fractions import Fraction

from allscales.errors import BadMatrix, BadNumber
from allscales.fits import Unpowered, power_rule
from allscales.matrices import basis_of, ratio_answer, saturated
from allscales.records import Fitting, NoUnits, Records, result_units
from lattices import rank_of
from record_model import columns, groups_at, letters_for, moved, orbits_of, product, result_for, some_point, told_row
from support import NO_RATIOS, called, fraction, is_lowest, pair, raised, shown
from test_bases import Case as Bases
from test_bases import powers_over
from test_hanging import WRONG_EXPONENTS
from test_records import NO_INPUTS, first_wrong

NOT_ABOVE = NO_RATIOS + (0, -1, (0, 1), (-3, 2))


class Case(Bases):
    def fitting(self, found, width):
        self.assertIs(found.__class__, Fitting)
        self.assertEqual(list(found.__dict__), ["spot", "basis"])
        self.assertIsInstance(found.spot, tuple)
        self.assertEqual(len(found.spot), width)
        self.assertTrue(all([is_lowest(item) for item in found.spot]))
        self.assertIsInstance(found.basis, tuple)
        if found.basis:
            self.assertEqual(shown(found.basis), shown(basis_of(found.basis)))
            self.assertEqual(found.basis, saturated(found.basis))

    def weighed(self, base, weights, changes):
        """Fails unless weights of changes, rows of ratios, add up to 0 for the letters, and not for the value."""
        self.coprime(base, [ratio for row in changes for ratio in row])
        self.assertIsInstance(weights, tuple)
        self.assertEqual(len(weights), len(changes))
        totals = [Fraction(0)] * len(changes[0])
        for shares, row in zip(weights, changes):
            self.assertIsInstance(shares, tuple)
            self.assertEqual(len(shares), len(base))
            self.assertTrue(all([is_lowest(share) for share in shares]))
            for at, ratio in enumerate(row):
                totals[at] += sum([fraction(share) * power for share, power in zip(shares, powers_over(base, ratio))])
        self.assertFalse(any(totals[:-1]))
        self.assertNotEqual(totals[-1], 0)

    def change(self, one, other):
        """The inputs of a row over those of another one, and behind them the values."""
        ratios = [pair(fraction(new) / fraction(old)) for new, old in zip(other[0], one[0])]
        return ratios + [pair(fraction(other[1]) / fraction(one[1]))]


class ResultUnits(Case):
    def check(self, exponents, rows):
        found = called(self, result_units, exponents, rows)
        if isinstance(found, NoUnits):
            self.check_none(exponents, rows, found)
            return found
        width = len(exponents[0])
        self.fitting(found, width)
        self.assertTrue(self.possible(exponents, found.spot, rows))
        for row in found.basis:
            spot = [fraction(item) + Fraction(2, 3) * many for item, many in zip(found.spot, row)]
            self.assertTrue(self.possible(exponents, [pair(item) for item in spot], rows))
        # Whoever takes a step out of what is told leaves what is possible.
        for k in range(width):
            step = [1 if at == k else 0 for at in range(width)]
            spot = [pair(fraction(item) + step[at]) for at, item in enumerate(found.spot)]
            inside = found.basis and rank_of(list(found.basis) + [step]) == len(found.basis)
            self.assertEqual(self.possible(exponents, spot, rows), bool(inside))
        return found

    def possible(self, exponents, result, rows):
        """Whether a record is possible, the exponents of the value being ratios."""
        many = 1
        for item in result:
            many = many * item[1]
        found = ratio_answer(columns(exponents), result)
        if not hasattr(found, "spot"):
            return False
        for orbit in orbits_of(exponents, [inputs for inputs, _ in rows]):
            for k in orbit[1:]:
                change = [fraction(item) for item in self.change(rows[orbit[0]], rows[k])]
                bottom = 1
                for power in found.spot:
                    bottom = bottom * power[1]
                due = Fraction(1)
                for ratio, power in zip(change, found.spot):
                    due *= ratio ** (power[0] * bottom // power[1])
                if due != change[-1] ** bottom:
                    return False
        return True

    def check_none(self, exponents, rows, found):
        self.assertIs(found.__class__, NoUnits)
        self.assertEqual(list(found.__dict__), ["pairs", "base", "weights"])
        self.assertIsInstance(found.pairs, tuple)
        orbits = orbits_of(exponents, [inputs for inputs, _ in rows])
        for told in found.pairs:
            self.assertIsInstance(told, tuple)
            self.assertLess(told[0], told[1])
            self.assertEqual(len([orbit for orbit in orbits if told[0] in orbit and told[1] in orbit]), 1)
        self.weighed(found.base, found.weights, [self.change(rows[i], rows[k]) for i, k in found.pairs])

    def test_examples(self):
        # The time of a fall: the rows tell its exponents of the length, and of the time, together alone.
        exponents = ((1, 0), (1, -2))
        found = self.check(exponents, [((5, 10), 1), ((20, 10), 2)])
        self.assertEqual(found.basis, ((1, -2),))
        found = self.check(exponents, [((5, 10), 1), ((5, 40), 2), ((20, 10), 2)])
        self.assertEqual((found.spot, found.basis), (((1, 1), (-1, 1)), ()))
        self.assertEqual(self.check(exponents, [((5, 10), 1)]).basis, ((1, 0), (0, 1)))
        found = self.check(((1, 0), (0, 1)), [((1, 1), 1), ((2, 1), 4), ((1, 4), 2)])
        self.assertEqual((found.spot, found.basis), (((2, 1), (1, 2)), ()))

    def test_one_row(self):
        found = self.check(((2, 4, 0), (0, 0, 3)), [((5, 7), 9)])
        self.assertEqual(found.basis, ((1, 2, 0), (0, 0, 1)))
        self.assertEqual(self.check(((0, 0),), [((5,), 9)]).spot, ((0, 1), (0, 1)))
        self.assertEqual(result_units(((0, 0),), [((5,), 9)]).basis, ())

    def test_two_values_at_equal_inputs(self):
        found = self.check(((1,), (1,)), [((2, 3), 5), ((2, 3), 7)])
        self.assertIsInstance(found, NoUnits)
        self.assertEqual(found.pairs, ((0, 1),))
        self.assertIsInstance(self.check(((1,), (1,)), [((2, 3), 5), (((4, 2), 3), (10, 2))]), Fitting)
        # A letter without unit keeps two rows from one orbit.
        self.assertIsInstance(self.check(((0,), (1,)), [((2, 3), 5), ((1, 3), 7)]), Fitting)

    def test_no_units(self):
        self.assertIsInstance(self.check(((1,),), [((1,), 1), ((2,), 3)]), NoUnits)
        self.assertIsInstance(self.check(((1,),), [((1,), 1), ((2,), 4), ((3,), 8)]), NoUnits)
        self.assertIsInstance(self.check(((0,), (1,)), [((1, 1), 1), ((1, 2), 2), ((2, 1), 1), ((2, 2), 4)]), NoUnits)
        near = (10 ** 30 + 1, 10 ** 30)
        self.assertIsInstance(self.check(((1,),), [((1,), 1), ((2,), 2), ((4,), pair(4 * fraction(near)))]), NoUnits)

    def test_planted_exponents(self):
        source = random.Random(1)
        seen = {}
        for _ in range(120):
            exponents = letters_for(source)
            many = source.choice((1, 1, 2, 3))
            result = [Fraction(item, many) for item in result_for(source, exponents, roots=False)]
            rows = []
            starts = [(some_point(source, len(exponents)), Fraction(source.randint(1, 9), 5)) for _ in range(2)]
            if groups_at(exponents, starts[0][0]) == groups_at(exponents, starts[1][0]):
                starts.pop()
            for k in range(source.randint(1, 6)):
                point, value = starts[0] if k < 3 else source.choice(starts)
                steps = [Fraction(source.randint(1, 5), source.randint(1, 5)) ** 6 for _ in result]
                factor = Fraction(1)
                for step, item in zip(steps, result):
                    # Each step is the power 6 of a ratio, and 6 times the exponent is an integer.
                    factor *= root(step) ** int(6 * item)
                rows.append((moved(source, exponents, point, steps), value * factor))
            if len(rows) > 1 and source.random() < 0.4:
                k = source.randrange(len(rows))
                rows[k] = (rows[k][0], rows[k][1] * source.choice((2, 101, Fraction(10 ** 30 + 1, 10 ** 30))))
            else:
                self.assertTrue(self.possible(exponents, [pair(item) for item in result], rows))
            rows = [told_row(source, row) for row in rows]
            found = self.check(source.choice((list, tuple))(exponents), source.choice((list, tuple))(rows))
            seen[found.__class__] = seen.get(found.__class__, 0) + 1
        self.assertGreater(min(seen[Fitting], seen[NoUnits]), 15)

    def test_with_records(self):
        # A record is possible for just the exponents that fit.
        exponents = ((1, 0), (0, 1), (1, -1))
        rows = [((2, 3, 5), 7), ((4, 9, (10, 3)), 42), ((8, 3, 20), 28)]
        found = result_units(exponents, rows)
        self.assertEqual((found.spot, found.basis), (((1, 1), (1, 1)), ()))
        self.assertIsNone(Records(exponents, (1, 1), rows).contradiction)
        for result in ((1, 0), (2, 1), (0, 0), (1, 2)):
            self.assertIsNotNone(Records(exponents, result, rows).contradiction)
            self.assertIsNotNone(first_wrong(exponents, result, rows))

    def test_limits(self):
        source = random.Random(2)
        exponents = ((1, 0), (0, 1), (2, -1), (1, 12))
        rows = []
        for _ in range(12):
            steps = [Fraction(source.randint(1, 10 ** 20), source.randint(1, 10 ** 20)) for _ in range(2)]
            start = (Fraction(7, 3), Fraction(10 ** 900 + 1, 10 ** 900), Fraction(5), Fraction(1))
            value = steps[0] ** 3 / steps[1] ** 2
            rows.append((moved(source, exponents, start, steps), 10 ** 3000 * value))
        rows = [told_row(source, row) for row in rows]
        found = result_units(exponents, rows)
        self.assertEqual((found.spot, found.basis), (((3, 1), (-2, 1)), ()))
        rows[5] = (rows[5][0], pair(fraction(rows[5][1]) * Fraction(10 ** 900 + 1, 10 ** 900)))
        self.assertIsInstance(result_units(exponents, rows), NoUnits)

    def test_wrong_values(self):
        for wrong in WRONG_EXPONENTS:
            raised(self, BadMatrix, ("exponents",), result_units, wrong, None)
        exponents = [[1, 0], [0, 1]]
        for wrong in (None, 5, "ab", {}, True, {0: ((1, 1), 1)}, [], ()):
            raised(self, BadNumber, ("rows", wrong), result_units, exponents, wrong)
        right = ((1, 2), 3)
        wrong = [None, 5, "ab", {}, (), (right,), [(1, 2), 3], ((1, 2), 3, 4), ((1, 2),)]
        wrong += [(inputs, 1) for inputs in NO_INPUTS] + [((1, 2), value) for value in NOT_ABOVE]
        for row in wrong:
            raised(self, BadNumber, ("row", row), result_units, exponents, [row])
            raised(self, BadNumber, ("row", row), result_units, exponents, (right, row, None))


def root(number):
    """The root 6 of the power 6 of a small Fraction."""
    return [Fraction(a, b) for a in range(1, 6) for b in range(1, 6) if Fraction(a, b) ** 6 == number][0]


class PowerRules(Case):
    def check(self, rows):
        found = called(self, power_rule, rows)
        changes = [self.change(rows[0], row) for row in rows[1:]]
        many = len(rows[0][0])
        if isinstance(found, Unpowered):
            self.assertEqual(list(found.__dict__), ["base", "weights"])
            self.weighed(found.base, found.weights, changes)
            return found
        self.fitting(found, many)
        powers = [fraction(item) for item in found.spot]
        self.assertTrue(self.fits(changes, powers))
        for row in found.basis:
            self.assertTrue(self.fits(changes, [a + Fraction(3, 2) * b for a, b in zip(powers, row)]))
        for k in range(many):
            step = [1 if at == k else 0 for at in range(many)]
            inside = found.basis and rank_of(list(found.basis) + [step]) == len(found.basis)
            self.assertEqual(self.fits(changes, [a + b for a, b in zip(powers, step)]), bool(inside))
        return found

    def fits(self, changes, powers):
        many = 1
        for power in powers:
            many = many * power.denominator
        for row in changes:
            if product(row[:-1], [int(power * many) for power in powers]) != fraction(row[-1]) ** many:
                return False
        return True

    def test_examples(self):
        found = self.check([((1, 1), 5), ((2, 1), 20), ((1, 4), 10), ((2, 4), 40)])
        self.assertEqual((found.spot, found.basis), (((2, 1), (1, 2)), ()))
        found = self.check([((1, 1), 5), ((2, 4), 20)])
        self.assertEqual(len(found.basis), 1)
        self.assertEqual(self.check([((8,), 2), ((1,), 1)]).spot, ((1, 3),))
        self.assertEqual(self.check([((8,), 2), ((1,), 4)]).spot, ((-1, 3),))

    def test_one_row_and_equal_rows(self):
        found = self.check([((2, 3, 4), 7)])
        self.assertEqual(found.basis, ((1, 0, 0), (0, 1, 0), (0, 0, 1)))
        self.assertEqual(self.check([((2, 3), 7)] * 3).basis, ((1, 0), (0, 1)))
        self.assertEqual(self.check([((2, 3), 7), ((2, 5), 7)]).basis, ((1, 0),))

    def test_no_powers(self):
        self.assertIsInstance(self.check([((1,), 1), ((1,), 2)]), Unpowered)
        # 3 is no ratio power of 2.
        self.assertIsInstance(self.check([((1,), 1), ((2,), 3)]), Unpowered)
        self.assertIsInstance(self.check([((1,), 1), ((2,), 2), ((3,), 9)]), Unpowered)
        self.assertIsInstance(self.check([((1, 1), 1), ((2, 4), 2), ((3, 9), 9)]), Unpowered)

    def test_planted_powers(self):
        source = random.Random(3)
        seen = {}
        for _ in range(200):
            many = source.randint(1, 4)
            bottom = source.choice((1, 2, 3))
            powers = [Fraction(source.randint(-4, 4), bottom) for _ in range(many)]
            factor = Fraction(source.randint(1, 20), source.randint(1, 20))
            rows = []
            for _ in range(source.randint(1, 6)):
                roots = [Fraction(source.randint(1, 6), source.randint(1, 6)) for _ in range(many)]
                value = factor
                for number, power in zip(roots, powers):
                    value *= number ** int(power * bottom)
                rows.append((tuple([number ** bottom for number in roots]), value))
            spoilt = source.random() < 0.4
            if spoilt:
                k = source.randrange(len(rows))
                rows[k] = (rows[k][0], rows[k][1] * source.choice((101, 2 ** 61 - 1, Fraction(2, 3))))
            rows = [told_row(source, row) for row in rows]
            found = self.check(source.choice((list, tuple))(rows))
            if not spoilt:
                self.assertIsInstance(found, Fitting)
            seen[found.__class__] = seen.get(found.__class__, 0) + 1
        self.assertGreater(min(seen.values()), 30)

    def test_long_numbers(self):
        large = 10 ** 1999 + 7
        rows = [((large, 3), large ** 2), ((1, 3), 1), ((large ** 2, 6), 2 * large ** 4)]
        found = self.check(rows)
        self.assertEqual((found.spot, found.basis), (((2, 1), (1, 1)), ()))

    def test_wrong_values(self):
        for wrong in (None, 5, "ab", {}, True, {0: ((1, 1), 1)}, [], ()):
            raised(self, BadNumber, ("rows", wrong), power_rule, wrong)
        right = ((1, 2), 3)
        wrong = [None, 5, "ab", {}, (), (right,), [(1, 2), 3], ((1, 2), 3, 4), ((1, 2),), ((), 3), ((), ()), (None, 3), (5, 3),
                 ("ab", 3), ({}, 3)]
        wrong += [((1, item), 1) for item in NOT_ABOVE] + [((1, 2), value) for value in NOT_ABOVE]
        for row in wrong:
            raised(self, BadNumber, ("row", row), power_rule, [row])
            raised(self, BadNumber, ("row", row), power_rule, [row, right])
            raised(self, BadNumber, ("row", row), power_rule, (right, row, None))
        for row in (((1,), 3), ((1, 2, 3), 3), ((), 3), ([1, 2], 3)):
            raised(self, BadNumber, ("row", row), power_rule, [right, right, row])
        raised(self, BadNumber, ("row", ((1, 2), 3)), power_rule, [((1,), 3), ((1, 2), 3)])


if __name__ == "__main__":
    unittest.main()
