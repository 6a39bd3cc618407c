"""Points [12] to [16]: quotients of polynomials."""

import random
import unittest
from fractions import Fraction
from math import gcd

from allscales.errors import BadNumber, ByZero
from allscales.polys import Poly
from allscales.quotients import Quotient, is_nothing, letter_of, monomial_of, number_of, put_in, same
from support import NO_INTEGERS, NO_RATIOS, called, fraction, in_other_terms, pair, raised, shown


def some_poly(source, size, most=4, degree=3, least=0):
    """A random polynomial."""
    terms = []
    for _ in range(source.randint(least, most)):
        ratio = pair(Fraction(source.choice((-6, -4, -1, 1, 2, 3, 10)), source.choice((1, 1, 2, 3, 12))))
        terms.append((tuple([source.randint(0, degree) for _ in range(size)]), ratio))
    return Poly(size, terms)


def some_quotient(source, size, most=4):
    """A random quotient, now and then 0."""
    while True:
        bottom = some_poly(source, size, most, 3, 1)
        if bottom.terms:
            return Quotient(some_poly(source, size, most), bottom)


def one_of(size):
    """The polynomial 1."""
    return Poly(size, [((0,) * size, 1)])


def brought(top, bottom):
    """The terms of top and bottom in the form of point [12], by Fractions."""
    if not top.terms:
        return ((), one_of(top.size).terms)
    terms = top.terms + bottom.terms
    bottoms = [ratio[1] for _, ratio in terms]
    scale = Fraction(1)
    for item in bottoms:
        scale *= item // gcd(item, int(scale))
    shared = gcd(*[int(fraction(ratio) * scale) for _, ratio in terms])
    scale = scale / shared if bottom.terms[0][1][0] > 0 else -scale / shared
    least = [min([exponents[j] for exponents, _ in terms]) for j in range(top.size)]
    return tuple([tuple([(tuple([a - b for a, b in zip(exponents, least)]), pair(fraction(ratio) * scale))
                         for exponents, ratio in part.terms]) for part in (top, bottom)])


class Quotients(unittest.TestCase):
    def check(self, found, top, bottom):
        """Fails unless a quotient is the one of these polynomials, in its form."""
        self.assertIsInstance(found, Quotient)
        self.assertEqual(sorted(found.__dict__), ["bottom", "size", "top"])
        self.assertEqual(shown(found.size), shown(top.size))
        self.assertEqual((found.top.size, found.bottom.size), (top.size, top.size))
        self.assertEqual(shown((found.top.terms, found.bottom.terms)), shown(brought(top, bottom)))

    def test_form_plain(self):
        top = Poly(2, [((1, 1), (1, 2)), ((3, 1), 3)])
        bottom = Poly(2, [((1, 0), (-2, 3)), ((2, 2), 4)])
        found = Quotient(top, bottom)
        self.assertEqual(found.top.terms, (((0, 1), (-3, 1)), ((2, 1), (-18, 1))))
        self.assertEqual(found.bottom.terms, (((0, 0), (4, 1)), ((1, 2), (-24, 1))))
        nothing = Quotient(Poly(2, []), bottom)
        self.assertEqual((nothing.top.terms, nothing.bottom.terms), ((), (((0, 0), (1, 1)),)))
        square = Poly(1, [((0,), -1), ((2,), 1)])
        root = Poly(1, [((0,), 1), ((1,), 1)])
        self.assertEqual((Quotient(square, root).top, Quotient(square, root).bottom), (square, root))

    def test_form(self):
        source = random.Random(121)
        for _ in range(300):
            size = source.randint(0, 5)
            top, bottom = some_poly(source, size), some_poly(source, size, 4, 3, 1)
            if bottom.terms:
                found = called(self, Quotient, top, bottom)
                self.check(found, top, bottom)
                self.check(Quotient(found.top, found.bottom), top, bottom)
                numbers = [ratio for _, ratio in found.top.terms + found.bottom.terms]
                self.assertEqual(gcd(*[number[0] for number in numbers]), 1)
                self.assertEqual({number[1] for number in numbers}, {1})
                self.assertGreater(found.bottom.terms[0][1][0], 0)

    def test_bottom_0(self):
        for size in range(4):
            raised(self, ByZero, (0,), Quotient, Poly(size, []), Poly(size, []))
            raised(self, ByZero, (0,), Quotient, one_of(size), Poly(size, []))

    def test_operators(self):
        source = random.Random(122)
        for turn in range(300):
            size = source.randint(0, 4)
            f, g = some_quotient(source, size), some_quotient(source, size)
            if turn % 3 == 0:
                g = Quotient(some_poly(source, size), f.bottom)
            before = shown([f, g])
            p, q, r, s = f.top, f.bottom, g.top, g.bottom
            if q == s:
                self.check(f + g, p + r, q)
                self.check(f - g, p - r, q)
            else:
                self.check(f + g, p * s + r * q, q * s)
                self.check(f - g, p * s - r * q, q * s)
            self.check(-f, -p, q)
            self.check(f * g, p * r, q * s)
            if r.terms:
                self.check(called(self, f.over, g), p * s, q * r)
            else:
                raised(self, ByZero, (0,), f.over, g)
            self.assertEqual(shown([f, g]), before)

    def test_equal_bottoms_are_kept(self):
        x, one = Poly(1, [((1,), 1)]), one_of(1)
        f = Quotient(x, x + one)
        self.assertEqual((f + f).bottom, x + one)
        self.assertEqual((f + Quotient(one, one)).bottom, x + one)
        self.assertEqual((Quotient(one, x) + Quotient(one, x * x)).bottom.terms, (((2,), (1, 1)),))
        self.assertEqual((f - f).bottom, one)

    def test_nothing_in_each_place(self):
        nothing, f = Quotient(Poly(1, []), one_of(1)), Quotient(one_of(1), Poly(1, [((1,), 2), ((0,), 1)]))
        for found in (nothing + nothing, nothing - nothing, nothing * f, f * nothing, -nothing, nothing.over(f), f - f):
            self.assertIs(found == nothing, True)
            self.assertIs(is_nothing(found), True)
        self.assertEqual(shown([f + nothing, nothing + f, f - nothing]), shown([f, f, f]))
        self.assertEqual(nothing - f, -f)
        for g in (f, nothing):
            raised(self, ByZero, (0,), g.over, nothing)

    def test_equal(self):
        source = random.Random(123)
        for _ in range(200):
            size = source.randint(0, 4)
            f, g = some_quotient(source, size), some_quotient(source, size)
            self.assertIs(f == Quotient(f.top * Poly(size, [((2,) * size, (-3, 7))]),
                                        f.bottom * Poly(size, [((2,) * size, (-3, 7))])), True)
            self.assertIs(f == g, shown(f) == shown(g))
            self.assertIs(f != g, shown(f) != shown(g))
            for other in (f.top, None, 0, (f.top, f.bottom), "f"):
                self.assertIs(f == other, False)
        x, one = Poly(1, [((1,), 1)]), one_of(1)
        self.assertIs(Quotient(x * x - one, x + one) == Quotient(x - one, one), False)
        self.assertIs(Quotient(one, x) == Quotient(one, x + one), False)
        self.assertIs(Quotient(x, x + one) == Quotient(x + x, x + one), False)
        self.assertIs(Quotient(one_of(1), one_of(1)) == Quotient(one_of(2), one_of(2)), False)

    def test_power(self):
        source = random.Random(124)
        for _ in range(60):
            size = source.randint(0, 4)
            f = some_quotient(source, size, 3)
            for n in range(-4, 5):
                self.check_power(f, n)

    def check_power(self, f, n):
        if n < 0 and not f.top.terms:
            raised(self, ByZero, (0,), f.power, n)
            return
        top, bottom = one_of(f.size), one_of(f.size)
        for _ in range(abs(n)):
            top, bottom = top * f.top, bottom * f.bottom
        if n < 0:
            top, bottom = bottom, top
        self.check(called(self, f.power, n), top, bottom)

    def test_power_12(self):
        source = random.Random(125)
        for _ in range(30):
            size = source.randint(0, 4)
            f = Quotient(some_poly(source, size, 2, 3, 1), some_poly(source, size, 1, 3, 1))
            for n in (-12, -7, 5, 12):
                self.check_power(f, n)

    def test_power_0(self):
        nothing = Quotient(Poly(2, []), one_of(2))
        self.check(nothing.power(0), one_of(2), one_of(2))
        self.check(nothing.power(3), Poly(2, []), one_of(2))
        x = Poly(1, [((1,), 1)])
        self.check(Quotient(one_of(1), x + one_of(1)).power(0), one_of(1), one_of(1))

    def test_wrong_powers(self):
        for top in (Poly(1, []), one_of(1)):
            for n in NO_INTEGERS:
                raised(self, BadNumber, ("power", n), Quotient(top, one_of(1)).power, n)
        raised(self, ByZero, (0,), Quotient(Poly(1, []), one_of(1)).power, -1)

    def test_at(self):
        source = random.Random(126)
        for _ in range(300):
            size = source.randint(0, 4)
            f = some_quotient(source, size)
            point = [in_other_terms(source, (source.randint(-3, 3), source.randint(1, 2))) for _ in range(size)]
            below = fraction(f.bottom.at(point))
            if below == 0:
                raised(self, ByZero, (0,), f.at, point)
            else:
                self.assertEqual(shown(called(self, f.at, point)), shown(pair(fraction(f.top.at(point)) / below)))
                self.assertEqual(f.at(tuple(point)), f.at(point))

    def test_wrong_points(self):
        x = Poly(1, [((1,), 1)])
        f = Quotient(one_of(1), x)
        for point in [[], [1, 2], (), 5, None, "1", {0: 1}] + [[item] for item in NO_RATIOS]:
            raised(self, BadNumber, ("point", point), f.at, point)
        for zero in (0, (0, 1), (0, 3)):
            raised(self, ByZero, (0,), f.at, [zero])
            raised(self, ByZero, (0,), f.at, (zero,))


class Functions(unittest.TestCase):
    def test_same(self):
        source = random.Random(131)
        for _ in range(200):
            size = source.randint(0, 4)
            f = some_quotient(source, size)
            factor = some_poly(source, size, 3, 2, 1)
            if factor.terms:
                g = Quotient(f.top * factor, f.bottom * factor)
                self.assertIs(called(self, same, f, g), True)
                self.assertIs(same(g, f), True)
                near = Quotient(g.top + Poly(size, [((1,) * size, (1, 1000))]), g.bottom)
                self.assertIs(same(f, near), False)
                near = Quotient(g.top, g.bottom + Poly(size, [(g.bottom.terms[-1][0], (1, 1000))]))
                self.assertIs(same(near, f), not f.top.terms)
            g = some_quotient(source, size)
            self.assertIs(same(f, g), (f - g).top.terms == ())
        x, one = Poly(1, [((1,), 1)]), one_of(1)
        self.assertIs(same(Quotient(x * x - one, x + one), Quotient(x - one, one)), True)

    def test_is_nothing(self):
        x = Poly(1, [((1,), 1)])
        self.assertIs(called(self, is_nothing, Quotient(Poly(1, []), x)), True)
        self.assertIs(is_nothing(Quotient(x, x)), False)

    def test_number_of(self):
        source = random.Random(132)
        for size in range(0, 11):
            for ratio in (0, 1, -7, (0, 3), (6, 4), (-1, 10 ** 400), 10 ** 399):
                found = called(self, number_of, size, ratio)
                top, bottom = pair(fraction(ratio))
                self.assertEqual(found.size, size)
                self.assertEqual(shown(found.top.terms), shown((((0,) * size, (top, 1)),) if top else ()))
                self.assertEqual(shown(found.bottom.terms), shown((((0,) * size, (bottom, 1)),)))
                self.assertEqual(found.at([source.randint(-9, 9) for _ in range(size)]), (top, bottom))

    def test_letter_of(self):
        for size in range(1, 11):
            for j in range(size):
                found = called(self, letter_of, size, j)
                exponents = tuple([int(at == j) for at in range(size)])
                self.assertEqual(shown(found.top.terms), shown(((exponents, (1, 1)),)))
                self.assertEqual(found.bottom, one_of(size))
                self.assertEqual(found.at(list(range(5, 5 + size))), (5 + j, 1))

    def test_wrong_sizes_ratios_letters(self):
        for size in NO_INTEGERS + (-1,):
            for other in (0, (1, 2), None, -1):
                raised(self, BadNumber, ("size", size), number_of, size, other)
                raised(self, BadNumber, ("size", size), letter_of, size, other)
        for ratio in NO_RATIOS:
            raised(self, BadNumber, ("ratio", ratio), number_of, 2, ratio)
        for j in NO_INTEGERS + (-1, 2, 10 ** 20):
            raised(self, BadNumber, ("letter", j), letter_of, 2, j)
        raised(self, BadNumber, ("letter", 0), letter_of, 0, 0)

    def test_put_in_plain(self):
        f = Quotient(Poly(2, [((1, 0), 1), ((0, 1), 2)]), Poly(2, [((0, 0), 1), ((1, 1), 1)]))
        found = called(self, put_in, f, 1, [(2,), (-1,)])
        self.assertEqual(found.top.terms, (((0,), (2, 1)), ((3,), (1, 1))))
        self.assertEqual(found.bottom.terms, (((1,), (1, 1)), ((2,), (1, 1))))
        self.assertEqual(shown(put_in(f, 0, [(), ()])), shown(number_of(0, (3, 2))))
        self.assertEqual(shown(put_in(number_of(0, (3, 2)), 2, [])), shown(number_of(2, (3, 2))))

    def test_put_in(self):
        source = random.Random(133)
        for _ in range(300):
            size, new = source.randint(0, 4), source.randint(0, 4)
            f = some_quotient(source, size)
            rows = [tuple([source.randint(-3, 3) for _ in range(new)]) for _ in range(size)]
            if source.random() < 0.3 and rows:
                rows[0] = rows[-1]
            parts = []
            for part in (f.top, f.bottom):
                moved = [(tuple([sum([exponents[j] * rows[j][at] for j in range(size)]) for at in range(new)]), ratio)
                         for exponents, ratio in part.terms]
                parts.append(Poly(new, [(tuple([60 + item for item in exponents]), ratio)
                                        for exponents, ratio in moved]))
            if not parts[1].terms:
                raised(self, ByZero, (0,), put_in, f, new, rows)
                continue
            found = called(self, put_in, f, new, rows)
            self.assertEqual(shown((found.size, found.top.terms, found.bottom.terms)), shown((new,) + brought(*parts)))
            self.assertEqual(shown(put_in(f, new, tuple(rows))), shown(found))

    def test_put_in_makes_the_bottom_0(self):
        f = Quotient(one_of(2), Poly(2, [((1, 0), 1), ((0, 1), -1)]))
        for rows in ([(1,), (1,)], [(-5,), (-5,)], ((0,), (0,))):
            raised(self, ByZero, (0,), put_in, f, 1, rows)
        raised(self, ByZero, (0,), put_in, f, 0, [(), ()])
        g = Quotient(Poly(2, [((1, 0), 1), ((0, 1), -1)]), one_of(2))
        self.assertIs(put_in(g, 1, [(-5,), (-5,)]) == number_of(1, 0), True)

    def test_wrong_rows(self):
        f = Quotient(one_of(2), Poly(2, [((1, 0), 1), ((0, 1), -1)]))
        for rows in (None, 5, "ab", {}, [], [(1,)], [(1,), (1,), (1,)], [(1,), [1]], [(1,), (1, 1)], [(1,), ()],
                     [(1,), (True,)], [(1,), ("1",)], [(1,), ((2, 1),)], [1, 1], [(1.0,), (1,)], [None, (1,)]):
            raised(self, BadNumber, ("rows", rows), put_in, f, 1, rows)
        raised(self, BadNumber, ("rows", [()]), put_in, number_of(0, 1), 0, [()])

    def test_monomial_of(self):
        source = random.Random(134)
        for _ in range(200):
            size = source.randint(0, 5)
            exponents = tuple([source.randint(-5, 5) for _ in range(size)])
            number = Fraction(source.choice((-6, 4, 5)), source.choice((1, 4, 9)))
            f = number_of(size, pair(number))
            for j, power in enumerate(exponents):
                f = f * letter_of(size, j).power(power)
            self.assertEqual(shown(called(self, monomial_of, f)), shown((exponents, pair(number))))
        x, one = Poly(1, [((1,), 1)]), one_of(1)
        for f in (number_of(1, 0), Quotient(x + one, one), Quotient(one, x + one), Quotient(x + one, x + one)):
            self.assertIsNone(called(self, monomial_of, f))

    def test_limits(self):
        source = random.Random(135)
        parts = [Poly(10, [(tuple([source.randint(0, 60) for _ in range(10)]), source.randint(1, 10 ** 400))
                           for _ in range(200)]) for _ in range(2)]
        f = Quotient(*parts)
        self.check_point(f, f + number_of(10, (1, 3)), Fraction(1, 3))
        rows = [tuple([source.randint(-2000, 2000) for _ in range(10)]) for _ in range(10)]
        moved = put_in(f, 10, rows)
        self.assertEqual(moved.at([1] * 10), f.at([1] * 10))
        factor = one_of(10) + Poly(10, [((1,) * 10, 7)])
        self.assertIs(same(f, Quotient(f.top * factor, f.bottom * factor)), True)
        self.assertIs(same(f, f + number_of(10, (1, 10 ** 400))), False)

    def check_point(self, f, g, step):
        point = [pair(Fraction(at + 1, 10 - at)) for at in range(10)]
        self.assertEqual(fraction(g.at(point)) - fraction(f.at(point)), step)


if __name__ == "__main__":
    unittest.main()
