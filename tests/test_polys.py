"""Points [10] and [11]: polynomials."""

import random
import unittest
from fractions import Fraction

from allscales.errors import BadNumber
from allscales.polys import Poly
from support import NO_INTEGERS, NO_RATIOS, called, fraction, in_other_terms, is_lowest, pair, raised, shown

NO_TERMS = (None, 1, "ab", [(1, 2), 3], ((1, 2),), ((1, 2), 3, 4), (), ([1, 2], 3), ((1,), 3), ((1, 2, 3), 3),
            ((1, -1), 3), ((True, 1), 3), ((1, "1"), 3), ((1, 1.0), 3), (1, 3), (None, 3), ("ab", 3),
            {(1, 2): 3}) + tuple([((1, 2), ratio) for ratio in NO_RATIOS])


def some_terms(source, size, most=8, degree=4):
    """Random terms in any order, some of them of the same exponents."""
    terms = []
    for _ in range(source.randint(0, most)):
        ratio = pair(Fraction(source.randint(-9, 9), source.choice((1, 1, 2, 3, 12))))
        terms.append((tuple([source.randint(0, degree) for _ in range(size)]), in_other_terms(source, ratio)))
        if source.random() < 0.3:
            terms.append((source.choice(terms)[0], in_other_terms(source, ratio)))
        if source.random() < 0.2:
            exponents, ratio = source.choice(terms)
            terms.append((exponents, pair(-fraction(ratio))))
    source.shuffle(terms)
    return terms


def table(terms):
    """The dict from exponents to Fractions of a sum of terms, without zeros."""
    sums = {}
    for exponents, ratio in terms:
        sums[exponents] = sums.get(exponents, 0) + fraction(ratio)
    return {exponents: number for exponents, number in sums.items() if number}


def value(terms, point):
    """The value of a sum of terms at a point, a Fraction."""
    total = Fraction(0)
    for exponents, ratio in terms:
        product = fraction(ratio)
        for power, item in zip(exponents, point):
            product *= fraction(item) ** power
        total += product
    return total


def some_point(source, size):
    """A random point."""
    items = [source.choice(((0, 1), pair(Fraction(source.randint(-9, 9), source.randint(1, 9))))) for _ in range(size)]
    return [in_other_terms(source, item) for item in items]


class Polys(unittest.TestCase):
    def check(self, poly, size, numbers):
        """Fails unless the polynomial is the one with this dict from exponents to Fractions."""
        self.assertIsInstance(poly, Poly)
        self.assertEqual(shown(poly.size), shown(size))
        due = tuple([(exponents, pair(numbers[exponents])) for exponents in sorted(numbers) if numbers[exponents]])
        self.assertEqual(shown(poly.terms), shown(due))
        self.assertEqual(sorted(poly.__dict__), ["size", "terms"])

    def test_form(self):
        self.check(Poly(0, []), 0, {})
        self.check(Poly(0, [((), 2), ((), (1, 2))]), 0, {(): Fraction(5, 2)})
        self.check(Poly(2, [((1, 0), 2), ((0, 3), (6, 4)), ((1, 0), -2)]), 2, {(0, 3): Fraction(3, 2)})
        self.check(Poly(1, (((5,), 0), ((0,), (0, 7)))), 1, {})
        source = random.Random(111)
        for _ in range(300):
            size = source.randint(0, 5)
            terms = some_terms(source, size)
            self.check(called(self, Poly, size, terms), size, table(terms))
            self.check(Poly(size, tuple(terms)), size, table(terms))

    def test_terms_are_copied(self):
        terms = [((1,), 2)]
        poly = Poly(1, terms)
        terms.append(((2,), 3))
        self.check(poly, 1, {(1,): Fraction(2)})

    def test_wrong_size_comes_first(self):
        for size in NO_INTEGERS + (-1,):
            for terms in ([], [((1,), 2)], [None], [((), True)]):
                raised(self, BadNumber, ("size", size), Poly, size, terms)

    def test_first_wrong_term(self):
        good = [((1, 2), 3), ((0, 0), (1, 2))]
        for term in NO_TERMS:
            raised(self, BadNumber, ("term", term), Poly, 2, [term])
            raised(self, BadNumber, ("term", term), Poly, 2, good + [term, 7] + good)
            raised(self, BadNumber, ("term", term), Poly, 2, tuple(good + [term, ((), 1)]))
        raised(self, BadNumber, ("term", ((1,), 1)), Poly, 0, [((), 1), ((1,), 1)])

    def test_operators(self):
        source = random.Random(112)
        for _ in range(300):
            size = source.randint(0, 5)
            p, q = Poly(size, some_terms(source, size)), Poly(size, some_terms(source, size))
            before = shown([p, q])
            one, other = table(p.terms), table(q.terms)
            self.check(p + q, size, {e: one.get(e, 0) + other.get(e, 0) for e in list(one) + list(other)})
            self.check(p - q, size, {e: one.get(e, 0) - other.get(e, 0) for e in list(one) + list(other)})
            self.check(-p, size, {e: -one[e] for e in one})
            product = {}
            for a in one:
                for b in other:
                    both = tuple([x + y for x, y in zip(a, b)])
                    product[both] = product.get(both, 0) + one[a] * other[b]
            self.check(p * q, size, product)
            self.check(p - p, size, {})
            self.assertEqual(shown([p, q]), before)

    def test_equal(self):
        source = random.Random(113)
        for _ in range(100):
            size = source.randint(0, 4)
            terms = some_terms(source, size)
            p, q = Poly(size, terms), Poly(size, some_terms(source, size))
            self.assertIs(p == Poly(size, terms[::-1] + [((0,) * size, 0)]), True)
            self.assertIs(p != Poly(size, terms), False)
            self.assertIs(p == q, table(p.terms) == table(q.terms))
            self.assertIs(p == p + Poly(size, [((1,) * size, (1, 100))]), False)
        self.assertIs(Poly(1, []) == Poly(2, []), False)
        for other in (0, None, "0", (), [], Fraction(0), ((), ())):
            self.assertIs(Poly(1, []) == other, False)
            self.assertIs(Poly(1, []) != other, True)

    def test_at(self):
        p = Poly(2, [((0, 0), 5), ((0, 2), 3), ((1, 0), (1, 2))])
        self.assertEqual(shown(p.at((0, 0))), shown((5, 1)))
        self.assertEqual(shown(p.at([(2, 4), (-1, 1)])), shown((33, 4)))
        self.assertEqual(Poly(0, [((), (2, 6))]).at([]), (1, 3))
        self.assertEqual(Poly(0, []).at(()), (0, 1))
        source = random.Random(114)
        for _ in range(300):
            size = source.randint(0, 5)
            poly = Poly(size, some_terms(source, size))
            point = some_point(source, size)
            found = called(self, poly.at, point)
            self.assertEqual(shown(found), shown(pair(value(poly.terms, point))))
            self.assertTrue(is_lowest(found))
            self.assertEqual(poly.at(tuple(point)), found)

    def test_wrong_points(self):
        poly = Poly(2, [((1, 1), 1)])
        for point in [[1], [1, 2, 3], (), 5, None, "12", {0: 1, 1: 2}] + [[1, item] for item in NO_RATIOS]:
            raised(self, BadNumber, ("point", point), poly.at, point)
        raised(self, BadNumber, ("point", [1]), Poly(0, []).at, [1])
        raised(self, BadNumber, ("point", None), Poly(0, []).at, None)

    def test_slope(self):
        source = random.Random(115)
        for _ in range(200):
            size = source.randint(1, 5)
            poly = Poly(size, some_terms(source, size))
            for j in range(size):
                due = {}
                for exponents, number in table(poly.terms).items():
                    lower = exponents[:j] + (exponents[j] - 1,) + exponents[j + 1:]
                    if exponents[j]:
                        due[lower] = number * exponents[j]
                self.check(called(self, poly.slope, j), size, due)

    def test_wrong_letters(self):
        for j in NO_INTEGERS + (-1, 2, 3, 10 ** 30):
            raised(self, BadNumber, ("letter", j), Poly(2, [((1, 1), 1)]).slope, j)
        raised(self, BadNumber, ("letter", 0), Poly(0, []).slope, 0)

    def test_parts(self):
        poly = Poly(2, [((1, 2), 3), ((2, 1), 4), ((0, 0), 5)])
        degrees, parts = zip(*called(self, poly.parts, [[1, 1]]))
        self.assertEqual(degrees, ((0,), (3,)))
        self.assertEqual(parts[1].terms, (((1, 2), (3, 1)), ((2, 1), (4, 1))))
        self.assertEqual(shown(poly.parts([])), shown((((), poly),)))
        self.assertEqual(Poly(2, []).parts([[1, 2]]), ())
        self.assertEqual(Poly(2, []).parts([]), ())
        self.assertEqual(shown(Poly(0, [((), 2)]).parts([[], []])), shown((((0, 0), Poly(0, [((), 2)])),)))

    def test_parts_at_random(self):
        source = random.Random(116)
        for _ in range(200):
            size = source.randint(0, 5)
            poly = Poly(size, some_terms(source, size, 12))
            rows = [[source.randint(-2, 2) for _ in range(size)] for _ in range(source.randint(0, 3))]
            groups = {}
            for exponents, number in table(poly.terms).items():
                degrees = tuple([sum([a * b for a, b in zip(row, exponents)]) for row in rows])
                groups.setdefault(degrees, {})[exponents] = number
            found = called(self, poly.parts, rows)
            self.assertTrue(isinstance(found, tuple) and all([isinstance(item, tuple) for item in found]))
            self.assertEqual(shown([degrees for degrees, _ in found]), shown(sorted(groups)))
            for degrees, part in found:
                self.check(part, size, groups[degrees])
            self.assertEqual(shown(poly.parts(tuple([tuple(row) for row in rows]))), shown(found))

    def test_limits(self):
        source = random.Random(117)
        terms = [(tuple([source.randint(0, 60) for _ in range(10)]), source.randint(-10 ** 400, 10 ** 400))
                 for _ in range(200)]
        poly = Poly(10, terms)
        self.assertEqual(len((poly * poly - poly * poly).terms), 0)
        self.assertEqual((poly + poly).terms[7], (poly.terms[7][0], (2 * poly.terms[7][1][0], 1)))
        point = [pair(Fraction(source.randint(-9, 9), source.randint(1, 9))) for _ in range(10)]
        self.assertEqual(poly.at(point), pair(value(poly.terms, point)))


if __name__ == "__main__":
    unittest.main()
