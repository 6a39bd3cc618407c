"""Point [5]: roots as exact values."""

import random
import unittest
from fractions import Fraction
from math import gcd, lcm

from allscales.errors import BadNumber
from allscales.powers import power_product, power_value
from allscales.ratios import root_of
from support import NO_INTEGERS, NO_RATIOS, called, fraction, in_other_terms, pair, raised, shown

PRIMES = (2, 3, 5, 7, 11, 13)


def power_by_primes(powers):
    """The power value of the product of primes to the powers of Fractions."""
    k = lcm(1, *[power.denominator for power in powers.values()])
    number = Fraction(1)
    for prime, power in powers.items():
        number *= Fraction(prime) ** int(power * k)
    return (1, k, pair(number))


def by_primes(number, power, powers):
    """Adds the number to the power to a dict from primes to powers."""
    for prime in PRIMES:
        for part, way in ((number.numerator, 1), (number.denominator, -1)):
            while part % prime == 0:
                part //= prime
                powers[prime] = powers.get(prime, Fraction(0)) + way * power


class PowerValue(unittest.TestCase):
    def test_told_in_the_document(self):
        self.assertEqual(shown(power_value(1, 2, 2)), shown((1, 2, (2, 1))))
        self.assertEqual(shown(power_value(-1, 1, (3, 2))), shown((-1, 1, (3, 2))))
        self.assertEqual(shown(power_value(-1, 2, (9, 4))), shown((-1, 1, (3, 2))))
        for k in range(1, 61):
            for zero in (0, (0, 1), (0, 5)):
                self.assertEqual(shown(power_value(0, k, zero)), shown((0, 1, (0, 1))))

    def test_one(self):
        for k in range(1, 61):
            for sign in (1, -1):
                for one in (1, (1, 1), (4, 4)):
                    self.assertEqual(shown(power_value(sign, k, one)), shown((sign, 1, (1, 1))))

    def test_least_root(self):
        source = random.Random(51)
        for k in range(1, 61):
            for power in [power for power in range(1, 61) if power <= 2 * k and k * power <= 400]:
                # Numbers that are no powers themselves: the exponent of some prime is 1.
                base = Fraction(source.choice((2, 6, 10, 45, 28)), source.choice((1, 11, 13, 121)))
                many = gcd(k, power)
                found = called(self, power_value, source.choice((1, -1)), k,
                               in_other_terms(source, pair(base ** power)))
                self.assertEqual(found[1:], (k // many, pair(base ** (power // many))))

    def test_large_ratios(self):
        source = random.Random(52)
        for k in range(1, 61):
            number = Fraction(source.randint(2, 10 ** 30), source.randint(2, 10 ** 30))
            sign, least, ratio = called(self, power_value, 1, k, pair(number))
            self.assertEqual(Fraction(*ratio) ** (k // least), number)
            for root in range(2, least + 1):
                if least % root == 0:
                    self.assertIsNone(root_of(ratio, root))

    def test_equal_numbers_are_equal_triples(self):
        for number in (Fraction(2), Fraction(2, 3), Fraction(4, 9), Fraction(12)):
            for k in range(1, 13):
                triples = [power_value(1, k * many, pair(number ** many)) for many in range(1, 6) if k * many <= 60]
                self.assertEqual(triples, [triples[0]] * len(triples))

    def test_wrong_signs_come_first(self):
        for sign in NO_INTEGERS + (2, -2, 10 ** 30):
            for k, ratio in ((2, 2), (0, 2), (2, -1), (True, None), (61, (1, 0))):
                raised(self, BadNumber, ("sign", sign), power_value, sign, k, ratio)

    def test_wrong_roots_come_second(self):
        for k in NO_INTEGERS + (0, -1, 61):
            for sign, ratio in ((1, 2), (0, 0), (0, 2), (-1, 0), (1, -1), (-1, "2")):
                raised(self, BadNumber, ("root", k), power_value, sign, k, ratio)

    def test_wrong_ratios(self):
        for sign in (1, 0, -1):
            for ratio in NO_RATIOS + (-1, (-1, 2)):
                raised(self, BadNumber, ("ratio", ratio), power_value, sign, 2, ratio)
        for ratio in (0, (0, 1), (0, 3)):
            raised(self, BadNumber, ("ratio", ratio), power_value, 1, 1, ratio)
            raised(self, BadNumber, ("ratio", ratio), power_value, -1, 60, ratio)
        for ratio in (1, (1, 3), 10 ** 50):
            raised(self, BadNumber, ("ratio", ratio), power_value, 0, 1, ratio)


class PowerProduct(unittest.TestCase):
    def test_empty(self):
        self.assertEqual(shown(called(self, power_product, [])), shown((1, 1, (1, 1))))
        self.assertEqual(shown(called(self, power_product, ())), shown((1, 1, (1, 1))))

    def test_plain(self):
        half = (1, 2)
        for pairs, value in (
                ([(2, half)], (1, 2, (2, 1))),
                ([(2, half), (8, half)], (1, 1, (4, 1))),
                ([(2, half), (3, (1, 3))], (1, 6, (72, 1))),
                ([((1, 2), -3)], (1, 1, (8, 1))),
                ([((6, 4), (2, 4))], (1, 2, (3, 2))),
                ([(7, 0)], (1, 1, (1, 1))),
                ([(6, half), (2, (-1, 2))], (1, 2, (3, 1))),
                ([(1, (7, 60))], (1, 1, (1, 1))),
                ([(4, (1, 4)), (9, (1, 4))], (1, 2, (6, 1)))):
            self.assertEqual(shown(called(self, power_product, pairs)), shown(value))

    def test_against_primes(self):
        source = random.Random(53)
        for turn in range(600):
            bottom = source.choice((60, 48, 36, 30)) if turn % 3 == 0 else source.randint(1, 12)
            pairs, powers = [], {}
            for _ in range(source.randint(1, 4)):
                number = Fraction(1)
                for _ in range(source.randint(0, 4)):
                    number *= Fraction(source.choice(PRIMES)) ** source.choice((-2, -1, 1, 1, 2, 3))
                power = Fraction(source.randint(-60, 60), bottom)
                by_primes(number, power, powers)
                pairs.append((in_other_terms(source, pair(number)), in_other_terms(source, pair(power))))
            self.assertEqual(shown(called(self, power_product, pairs)), shown(power_by_primes(powers)), pairs)
            self.assertEqual(power_product(tuple(pairs)), power_product(pairs))

    def test_roots_cancel(self):
        source = random.Random(54)
        for _ in range(100):
            k = source.randint(2, 60)
            number = Fraction(source.randint(1, 10 ** 12), source.randint(1, 10 ** 12))
            top = source.randint(1, k)
            pairs = [(pair(number), (top, k)), (pair(number), (k - top, k))]
            self.assertEqual(power_product(pairs), (1, 1, pair(number)))
            pairs = [(pair(number ** k), (1, k)), (pair(1 / number), 1)]
            self.assertEqual(power_product(pairs), (1, 1, (1, 1)))

    def test_first_wrong_pair(self):
        good = [(2, (1, 2)), ((3, 4), 5)]
        wrong = [(value, 1) for value in NO_RATIOS + (0, -1, (0, 3), (-1, 2))]
        wrong += [(2, value) for value in NO_RATIOS + ((1, 61), (2, 122), (-7, 64))]
        wrong += [[2, 1], (2,), (2, 1, 1), (), None, 2, "ab", {2: 1}, {}, True]
        for value in wrong:
            raised(self, BadNumber, ("pair", value), power_product, [value])
            raised(self, BadNumber, ("pair", value), power_product, good + [value, (0, 0)] + good)
            raised(self, BadNumber, ("pair", value), power_product, tuple(good + [value]))

    def test_bottoms_up_to_60_in_lowest_terms(self):
        self.assertEqual(power_product([(2, (2, 120))]), (1, 60, (2, 1)))
        self.assertEqual(power_product([(2, (61, 61))]), (1, 1, (2, 1)))
        self.assertEqual(fraction(power_product([(4, (30, 60))])[2]), 2)


if __name__ == "__main__":
    unittest.main()
