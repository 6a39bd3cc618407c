"""Point [89]: coprime bases, relations, and products of powers."""

import random
import unittest
from fractions import Fraction
from math import gcd

from allscales.bases import NoPowers, Powers, as_powers, coprime_base, relations
from allscales.coprime import coprime_parts
from allscales.errors import BadNumber
from allscales.matrices import basis_of, in_lattice
from lattices import rank_of
from support import NO_RATIOS, called, fraction, in_other_terms, is_lowest, pair, raised, shown

# Primes of Mersenne, and one next to 10 ** 30.
LARGE = (2 ** 61 - 1, 2 ** 89 - 1, 2 ** 107 - 1, 2 ** 127 - 1, 10 ** 30 + 57)
WRONG = NO_RATIOS + (0, -1, (0, 1), (-1, 2), (0, 5))


def value(base, powers):
    """The product of powers of numbers."""
    product = Fraction(1)
    for number, power in zip(base, powers):
        product *= fraction(number) ** power
    return product


def powers_over(base, ratio):
    """The powers of a coprime base in a ratio, by trial."""
    left = fraction(ratio)
    found = []
    for number in base:
        power = 0
        while gcd(left.numerator, number) > 1:
            left /= number
            power += 1
        while gcd(left.denominator, number) > 1:
            left *= number
            power -= 1
        found.append(power)
    return found if left == 1 else None


def some_ratios(source, most=6):
    """Random products of powers of a few numbers, among them large primes."""
    seeds = source.sample((2, 3, 4, 5, 6, 10, 12, 35, 49) + LARGE, source.randint(1, 4))
    ratios = []
    for _ in range(source.randint(1, most)):
        powers = [source.randint(-3, 3) if source.random() < 0.7 else 0 for _ in seeds]
        ratios.append(pair(value(seeds, powers)))
    return ratios


class Case(unittest.TestCase):
    def coprime(self, base, ratios):
        self.assertIsInstance(base, tuple)
        self.assertEqual(list(base), sorted(base))
        for at, number in enumerate(base):
            self.assertIs(number.__class__, int)
            self.assertGreater(number, 1)
            self.assertEqual([other for other in base[:at] if gcd(number, other) != 1], [])
        for ratio in ratios:
            self.assertIsNotNone(powers_over(base, ratio), (base, ratio))


class Bases(Case):
    def test_examples(self):
        self.assertEqual(called(self, coprime_base, []), ())
        self.assertEqual(called(self, coprime_base, ()), ())
        self.assertEqual(called(self, coprime_base, [1, (5, 5), (1, 1)]), ())
        self.assertEqual(called(self, coprime_base, [7]), (7,))
        self.assertEqual(called(self, coprime_base, [(1, 7)]), (7,))
        self.assertEqual(called(self, coprime_base, [2, 6]), (2, 3))
        self.coprime(coprime_base([12, 18, (10, 4)]), [12, 18, (5, 2)])

    def test_random(self):
        source = random.Random(1)
        for _ in range(200):
            ratios = some_ratios(source, 8)
            given = [in_other_terms(source, ratio) for ratio in ratios]
            self.coprime(called(self, coprime_base, given), ratios)
            self.assertEqual(coprime_base(tuple(given)), coprime_base(given))

    def test_products_of_large_primes(self):
        one, other = LARGE[2] * LARGE[3], LARGE[3] * LARGE[4]
        self.coprime(coprime_base([one, (other, 2)]), [one, (other, 2)])
        self.assertIn(LARGE[3], coprime_base([one, other]))

    def test_parts_of_many_numbers(self):
        source = random.Random(2)
        for _ in range(100):
            numbers = [source.randint(1, 400) for _ in range(source.randint(0, 12))]
            self.coprime(tuple(coprime_parts(numbers)), numbers)

    def test_long_numbers(self):
        source = random.Random(3)
        numbers = [source.randrange(10 ** 399, 10 ** 400) for _ in range(30)]
        self.coprime(coprime_base(numbers), numbers)

    def test_high_powers(self):
        self.assertEqual(coprime_base([2 ** 1300, (3 ** 700, 2 ** 1299)]), (2, 3 ** 700))

    def test_wrong_values(self):
        for wrong in WRONG:
            raised(self, BadNumber, ("ratio", wrong), coprime_base, [2, wrong, 0])
            raised(self, BadNumber, ("ratio", wrong), relations, [2, wrong, 0])


class Relations(Case):
    def test_examples(self):
        self.assertEqual(called(self, relations, [2]), ())
        self.assertEqual(called(self, relations, [1]), ((1,),))
        self.assertEqual(called(self, relations, [1, (4, 4)]), ((1, 0), (0, 1)))
        self.assertEqual(called(self, relations, [4, 8]), ((3, -2),))
        self.assertEqual(called(self, relations, [6, 2, 3]), ((1, -1, -1),))
        self.assertEqual(called(self, relations, [(1, 2), 2, 5]), ((1, 1, 0),))

    def test_random(self):
        source = random.Random(4)
        for _ in range(250):
            ratios = some_ratios(source)
            given = [in_other_terms(source, ratio) for ratio in ratios]
            found = called(self, relations, given)
            for row in found:
                self.assertEqual(value(ratios, row), 1)
            # As many as there have to be, and saturated: no row within them is left out.
            rows = [powers_over(coprime_base(ratios), ratio) for ratio in ratios]
            rank = rank_of(rows) if rows[0] else 0
            self.assertEqual(len(found), len(ratios) - rank)
            if found:
                self.assertEqual(shown(found), shown(basis_of(found)))
                for many in (2, 3, 5):
                    tried = [source.randint(-2, 2) for _ in found]
                    row = [sum(a * b for a, b in zip(tried, column)) for column in zip(*found)]
                    if all(item % many == 0 for item in row):
                        self.assertIsNotNone(in_lattice(found, [item // many for item in row]))

    def test_next_to_a_relation(self):
        self.assertEqual(relations([10 ** 30 + 1, 10 ** 30]), ())
        self.assertEqual(relations([(10 ** 30 + 1) ** 2, (10 ** 30 + 1) ** 3]), ((3, -2),))


class AsPowers(Case):
    def check(self, ratio, ratios, roots):
        found = called(self, as_powers, ratio, ratios, roots)
        base = coprime_base([ratio] + list(ratios))
        wanted = powers_over(base, ratio)
        rows = [powers_over(base, given) for given in ratios]
        if isinstance(found, Powers):
            self.assertEqual(list(found.__dict__), ["spot", "basis"])
            self.assertEqual(shown(found.basis), shown(relations(ratios)))
            self.assertIsInstance(found.spot, tuple)
            self.assertEqual(len(found.spot), len(ratios))
            self.assertTrue(all(is_lowest(item) if roots else item.__class__ is int for item in found.spot))
            sums = [sum(fraction(many) * row[at] for many, row in zip(found.spot, rows)) for at in range(len(base))]
            self.assertEqual(sums, wanted)
        else:
            self.assertIs(found.__class__, NoPowers)
            self.assertEqual(list(found.__dict__), ["base", "weights"])
            self.coprime(found.base, [ratio] + list(ratios))
            self.assertEqual(len(found.weights), len(found.base))
            self.assertTrue(all(is_lowest(item) for item in found.weights))
            for given in ratios:
                self.assertTrue(self.fits(self.weighed(found, given), roots))
            self.assertFalse(self.fits(self.weighed(found, ratio), roots))
        return found

    def weighed(self, found, ratio):
        return sum([fraction(weight) * power for weight, power in zip(found.weights, powers_over(found.base, ratio))])

    def fits(self, total, roots):
        return total == 0 if roots else Fraction(total).denominator == 1

    def test_examples(self):
        self.assertEqual(self.check(12, [2, 3], False).spot, (2, 1))
        self.assertEqual(self.check((9, 4), [(2, 3)], False).spot, (-2,))
        self.assertIsInstance(self.check(2, [4], False), NoPowers)
        self.assertEqual(self.check(2, [4], True).spot, ((1, 2),))
        self.assertIsInstance(self.check(5, [4], True), NoPowers)
        self.assertIsInstance(self.check(6, [2], False), NoPowers)

    def test_ratios_that_are_one(self):
        self.assertEqual(self.check(1, [1, (2, 2)], False).spot, (0, 0))
        self.assertEqual(self.check((3, 3), [1, 1], True).spot, ((0, 1), (0, 1)))
        self.assertIsInstance(self.check(2, [1], True), NoPowers)
        self.assertIsInstance(self.check(2, [1], False), NoPowers)
        self.assertIsInstance(self.check(1, [2, 5], False), Powers)

    def test_roots_by_name_and_by_place(self):
        self.assertEqual(shown(as_powers(8, [4], roots=True)), shown(as_powers(8, [4], True)))
        self.assertEqual(as_powers(8, [4], roots=True).spot, ((3, 2),))
        self.assertIsInstance(as_powers(8, [4], roots=False), NoPowers)
        self.assertIsInstance(as_powers(8, [4]), NoPowers)

    def test_random(self):
        source = random.Random(5)
        seen = {}
        for _ in range(400):
            ratios = some_ratios(source)
            ratio = source.choice(some_ratios(source))
            kind = source.random()
            if kind < 0.4:
                ratio = pair(value(ratios, [source.randint(-3, 3) for _ in ratios]))
            elif kind < 0.6:
                spoilt = value(ratios, [source.randint(-3, 3) for _ in ratios]) * Fraction(10 ** 30 + 1, 10 ** 30)
                ratio = pair(spoilt)
            for roots in (False, True):
                found = self.check(in_other_terms(source, ratio), [in_other_terms(source, one) for one in ratios], roots)
                seen[(found.__class__, roots)] = seen.get((found.__class__, roots), 0) + 1
                if kind < 0.4:
                    self.assertIsInstance(found, Powers)
        self.assertEqual(len(seen), 4)
        self.assertGreater(min(seen.values()), 60)

    def test_powers_of_two_powers(self):
        # 2 is a product of powers of 2 ** 6, 2 ** 10 and 2 ** 15, but of no two of them.
        numbers = [2 ** 6, 2 ** 10, 2 ** 15]
        self.assertIsInstance(self.check(2, numbers, False), Powers)
        for at in range(3):
            self.assertIsInstance(self.check(2, numbers[:at] + numbers[at + 1:], False), NoPowers)

    def test_the_ratio_ahead_of_the_list(self):
        for wrong in WRONG:
            raised(self, BadNumber, ("ratio", wrong), as_powers, wrong, [0, 2])
            raised(self, BadNumber, ("ratio", wrong), as_powers, 2, [3, wrong, -5], True)
            raised(self, BadNumber, ("ratio", wrong), as_powers, 2, [3, wrong, -5])


if __name__ == "__main__":
    unittest.main()
