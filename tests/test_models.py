"""Points [79], [82] and [83]: factors that carry all rules over from a thing to its model."""

import random
import unittest
from fractions import Fraction
from math import lcm

from allscales.errors import BadMatrix, BadNumber
from allscales.matrices import Answer, basis_of, kernel, ratio_answer
from allscales.models import Carried, Gap, carried
from allscales.powers import power_product, power_value
from lattices import rank_of
from support import NO_RATIOS, called, fraction, in_other_terms, pair, raised, shown
from test_hanging import some_letters
from test_ones import WRONG_EXPONENTS, columns, units_of

NO_FACTORS = tuple([item for item in NO_RATIOS if item is not None]) + (0, -1, (0, 1), (-1, 2), (0, 5))
ONE = (1, 1, (1, 1))


class Case(unittest.TestCase):
    def check(self, exponents, factors):
        found = called(self, carried, exponents, factors)
        told = [j for j, factor in enumerate(factors) if factor is not None]
        rows = [exponents[j] for j in told]
        if isinstance(found, Gap):
            self.check_gap(exponents, factors, told, found)
            return found
        self.assertIs(found.__class__, Carried)
        self.assertEqual(list(found.__dict__), ["factors", "changes"])
        self.assertIsInstance(found.factors, tuple)
        self.assertEqual(len(found.factors), len(exponents))
        width = len(exponents[0])
        whole = [tuple([1 if at == k else 0 for at in range(width)]) for k in range(width)]
        self.assertEqual(shown(found.changes), shown(kernel(rows) if rows else basis_of(whole)))
        for j, factor in enumerate(found.factors):
            if factors[j] is not None:
                self.assertEqual(shown(factor), shown((1, 1, pair(fraction(factors[j])))))
            elif rank_of(rows + [exponents[j]]) > (rank_of(rows) if rows else 0):
                self.assertIsNone(factor)
            else:
                self.settled(exponents[j], rows, [factors[k] for k in told], factor)
        return found

    def settled(self, row, rows, factors, factor):
        """Fails unless factor is the product of the factors to the powers that make row of rows."""
        if not any(row):
            self.assertEqual(shown(factor), shown(ONE))
            return
        found = ratio_answer(columns(rows), row)
        self.assertIsInstance(found, Answer)
        sign, k, ratio = factor
        self.assertEqual(sign, 1)
        many = k
        for power in found.spot:
            many = lcm(many, power[1])
        product = Fraction(1)
        for number, power in zip(factors, found.spot):
            product *= fraction(number) ** (power[0] * many // power[1])
        self.assertEqual(fraction(ratio) ** (many // k), product)
        self.assertEqual(shown(power_value(1, k, ratio)), shown(factor))

    def check_gap(self, exponents, factors, told, found):
        self.assertIs(found.__class__, Gap)
        self.assertEqual(list(found.__dict__), ["group"])
        self.assertIsInstance(found.group, tuple)
        self.assertEqual(len(found.group), len(exponents))
        self.assertTrue(all([item.__class__ is int for item in found.group]))
        self.assertFalse(any(units_of(exponents, found.group)))
        product = Fraction(1)
        for j, power in enumerate(found.group):
            if j not in told:
                self.assertEqual(power, 0)
            else:
                product *= fraction(factors[j]) ** power
        self.assertNotEqual(product, 1)


class Examples(Case):
    def test_fall(self):
        # A length, a time and an acceleration.
        exponents = ((1, 0), (0, 1), (1, -2))
        self.assertEqual(self.check(exponents, (4, 2, None)).factors, ((1, 1, (4, 1)), (1, 1, (2, 1)), ONE))
        found = self.check(exponents, [2, None, 1])
        self.assertEqual(found.factors[1], (1, 2, (2, 1)))
        self.assertEqual(found.changes, ())
        self.assertEqual(self.check(exponents, (4, 2, 1)).changes, ())
        self.assertIsInstance(self.check(exponents, (4, 2, 2)), Gap)
        self.assertIn(carried(exponents, (4, 2, 2)).group, ((1, -2, -1), (-1, 2, 1)))

    def test_no_factor_told(self):
        found = self.check(((1, 0), (2, 1), (0, 0)), (None, None, None))
        self.assertEqual((found.factors, found.changes), ((None, None, ONE), ((1, 0), (0, 1))))
        found = self.check(((0, 0, 0),), [None])
        self.assertEqual((found.factors, found.changes), ((ONE,), ((1, 0, 0), (0, 1, 0), (0, 0, 1))))

    def test_letters_without_unit(self):
        exponents = ((0,), (1,), (0,))
        self.assertEqual(self.check(exponents, (None, 5, 1)).factors, (ONE, (1, 1, (5, 1)), ONE))
        found = self.check(exponents, (None, 5, 2))
        self.assertEqual(found.group[:2], (0, 0))
        self.assertIsInstance(self.check(exponents, ((3, 2), None, None)), Gap)
        self.assertEqual(self.check(exponents, ((4, 4), None, None)).factors, (ONE, None, ONE))

    def test_roots_and_powers(self):
        found = self.check(((6,), (1,), (-4,)), ((64, 1), None, None))
        self.assertEqual(found.factors, ((1, 1, (64, 1)), (1, 1, (2, 1)), (1, 1, (1, 16))))
        found = self.check(((6,), (1,), (-4,)), ((72, 1), None, None))
        self.assertEqual(found.factors[1:], ((1, 6, (72, 1)), (1, 3, (1, 5184))))
        found = self.check(((60,), (1,)), (2, None))
        self.assertEqual(found.factors[1], (1, 60, (2, 1)))
        self.assertEqual(self.check(((2, 1), (0, 1), (1, 0)), (12, 3, None)).factors[2], (1, 1, (2, 1)))

    def test_off_by_one_part_in_many(self):
        near = (10 ** 30 + 1, 10 ** 30)
        exponents = ((1, 0), (0, 1), (1, 1))
        self.assertIsInstance(self.check(exponents, (3, 5, 15)), Carried)
        self.assertIsInstance(self.check(exponents, (3, 5, pair(15 * fraction(near)))), Gap)
        self.assertIsInstance(self.check(exponents, (3, pair(5 * fraction(near)), 15)), Gap)
        self.assertIsInstance(self.check(((1,), (1,)), (near, (10 ** 30, 10 ** 30 - 1))), Gap)
        self.assertIsInstance(self.check(((0,),), (near,)), Gap)


class AtRandom(Case):
    def planted(self, source, exponents):
        """Factors that a change of units gives to the letters."""
        steps = [Fraction(source.randint(1, 9), source.randint(1, 9)) for _ in exponents[0]]
        found = []
        for row in exponents:
            factor = Fraction(1)
            for step, power in zip(steps, row):
                factor *= step ** power
            found.append(factor)
        return found

    def test_planted_factors(self):
        source = random.Random(1)
        seen = {}
        for _ in range(400):
            exponents = some_letters(source)
            factors = self.planted(source, exponents)
            given = [in_other_terms(source, pair(factor)) if source.random() < 0.6 else None for factor in factors]
            told = [j for j, factor in enumerate(given) if factor is not None]
            spoilt = bool(told) and source.random() < 0.4
            if spoilt:
                j = source.choice(told)
                near = source.choice((Fraction(2), Fraction(10 ** 30 + 1, 10 ** 30), Fraction(6, 7)))
                given[j] = pair(factors[j] * near)
            found = self.check(source.choice((list, tuple))(exponents), source.choice((list, tuple))(given))
            rows = [exponents[j] for j in told]
            if spoilt:
                alone = rank_of(rows) > (rank_of([exponents[k] for k in told if k != j]) if len(told) > 1 else 0)
                self.assertEqual(isinstance(found, Carried), alone)
            else:
                self.assertIsInstance(found, Carried)
                for factor, due in zip(found.factors, factors):
                    if factor is not None:
                        self.assertEqual(factor, (1, 1, pair(due)))
            seen[(found.__class__, spoilt)] = seen.get((found.__class__, spoilt), 0) + 1
        self.assertGreater(min(seen.values()), 30)

    def test_roots(self):
        source = random.Random(2)
        roots = 0
        for _ in range(200):
            width = source.randint(1, 3)
            rows = [tuple([source.choice((1, 2, 3, 4, -5)) if at == k else 0 for at in range(width)])
                    for k in range(width)]
            rows += [tuple([source.randint(-3, 3) for _ in range(width)]) for _ in range(source.randint(1, 3))]
            given = [source.choice((None, 1, 2, 4, 8, (9, 4), 5, (16, 81), 10 ** 30 + 57)) for _ in range(width)]
            found = self.check(rows, given + [None] * (len(rows) - width))
            roots += len([1 for factor in found.factors if factor is not None and factor[1] > 1])
        self.assertGreater(roots, 60)

    def test_limits(self):
        # Ten letters and six base units; six letters settle the others.
        source = random.Random(3)
        units = [tuple([1 if at == k else 0 for at in range(6)]) for k in range(6)]
        for _ in range(20):
            more = [tuple([source.randint(-20, 20) for _ in range(6)]) for _ in range(4)]
            exponents = tuple(units + more)
            factors = self.planted(source, exponents)
            given = [pair(factor) for factor in factors[:6]] + [None] * 4
            self.assertEqual(self.check(exponents, given).factors, tuple([(1, 1, pair(factor)) for factor in factors]))
            given[-1] = pair(factors[-1])
            self.assertIsInstance(self.check(exponents, given), Carried)
            given[-1] = pair(factors[-1] * Fraction(10 ** 30 + 1, 10 ** 30))
            self.assertIsInstance(self.check(exponents, given), Gap)

    def test_relations_among_told_numbers(self):
        # The told factors are powers of one another, so many powers of them give the same factor.
        exponents = ((2,), (4,), (6,), (1,), (3,))
        self.assertEqual(self.check(exponents, (4, 16, 64, None, None)).factors[3:], ((1, 1, (2, 1)), (1, 1, (8, 1))))
        self.assertEqual(self.check(exponents, (3, 9, 27, None, None)).factors[3:], ((1, 2, (3, 1)), (1, 2, (27, 1))))
        self.assertEqual(power_product([(3, (3, 2))]), (1, 2, (27, 1)))


class Wrong(unittest.TestCase):
    def test_exponents(self):
        for wrong in WRONG_EXPONENTS:
            raised(self, BadMatrix, ("exponents",), carried, wrong, (1,))
            raised(self, BadMatrix, ("exponents",), carried, wrong, None)

    def test_factors(self):
        exponents = ((1,), (2,))
        for wrong in [None, 5, "ab", {}, {0: 1, 1: 2}, (), [], (1,), (1, 2, 3), [None]]:
            raised(self, BadMatrix, ("factors",), carried, exponents, wrong)
        raised(self, BadMatrix, ("factors",), carried, exponents, ("a", 0, None))

    def test_factor(self):
        exponents = ((1,), (2,))
        for wrong in NO_FACTORS:
            for given in ((wrong, None), [1, wrong], (wrong, "later"), (None, wrong)):
                raised(self, BadNumber, ("factor", wrong), carried, exponents, given)


if __name__ == "__main__":
    unittest.main()
