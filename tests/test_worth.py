"""Points [47] to [54]: units by worth."""

import itertools
import random
import unittest
from fractions import Fraction

from allscales.errors import BadMatrix, ByZero
from allscales.formulas import Formulas
from allscales.inference import General, general_units
from allscales.matrices import basis_of, in_lattice, saturated
from allscales.polys import Poly
from allscales.quotients import Quotient, is_nothing, letter_of, number_of, same
from allscales.units import Units
from allscales.worth import (Apart, NoResult, Refuter, apart, covariant, no_result, refuter, result_of, rewritten,
                             weights_of)
from support import NO_INTEGERS, called, fraction, is_lowest, pair, raised, shown


def is_weight(f, weight):
    """Whether a tuple is a weight, by the identity of point [47]."""
    top, bottom, total = f.top, f.bottom, Poly(f.size, [])
    for j, many in enumerate(weight[:-1]):
        letter = letter_of(f.size, j).top
        gap = letter * (top.slope(j) * bottom - top * bottom.slope(j))
        total = total + times(gap, many)
    return total == times(top * bottom, weight[-1])


def times(poly, many):
    """A polynomial times an integer."""
    return Poly(poly.size, [(exponents, pair(many * fraction(ratio))) for exponents, ratio in poly.terms])


def degree(exponents, weight):
    """The sum of the products of exponents and weights."""
    return sum([a * b for a, b in zip(exponents, weight)])


def some_poly(source, size, terms, most=3):
    """A random polynomial that is not 0."""
    chosen = [(tuple([source.randint(0, most) for _ in range(size)]), source.choice((-7, -1, 1, 1, 2, 5)))
              for _ in range(terms)]
    return Poly(size, list(dict(chosen).items()))


def like_poly(source, size, rows, terms):
    """A random polynomial whose terms have the same degrees by some rows of weights."""
    start = tuple([source.randint(0, 3) for _ in range(size)])
    wanted = [degree(start, row) for row in rows]
    pool = [exponents for exponents in itertools.product(range(5), repeat=size)
            if [degree(exponents, row) for row in rows] == wanted]
    chosen = source.sample(pool, min(len(pool), terms))
    return Poly(size, [(exponents, source.choice((-3, -1, 1, 2, 10 ** 20))) for exponents in chosen])


def some_quotient(source, size):
    """A random quotient other than 0: with weights and without, with common factors, monomials, numbers."""
    kind = source.random()
    if kind < 0.1:
        return number_of(size, (source.choice((-5, 1, 2)), 3))
    if kind < 0.2:
        return letter_of(size, source.randrange(size)).power(source.randint(-3, 3)) * letter_of(size, 0)
    if kind < 0.6:
        rows = [[source.randint(-2, 3) for _ in range(size)] for _ in range(source.choice((1, 1, 2)))]
        f = Quotient(like_poly(source, size, rows, 3), like_poly(source, size, rows, 3))
    else:
        f = Quotient(some_poly(source, size, source.randint(1, 3)), some_poly(source, size, source.randint(1, 2)))
    if source.random() < 0.5:
        factor = some_poly(source, size, 2, 2)
        f = Quotient(f.top * factor, f.bottom * factor)
    return f


def exponents_by(source, weights, size, width, right):
    """(exponents, result) out of weights; something wrong in them if not right."""
    columns = []
    for _ in range(width):
        column = [0] * (size + 1)
        for row in weights:
            many = source.randint(-3, 3)
            column = [a + many * b for a, b in zip(column, row)]
        columns.append(column)
    if not right:
        column = source.choice(columns)
        column[source.randrange(size + 1)] += source.choice((1, -1, 2))
    exponents = tuple([tuple([column[j] for column in columns]) for j in range(size)])
    return exponents, tuple([column[-1] for column in columns])


class Weights(unittest.TestCase):
    def test_plain(self):
        x, y, one = letter_of(2, 0), letter_of(2, 1), number_of(2, 1)
        for f, basis in ((x * y, ((1, 0, 1), (0, 1, 1))), (x + y, ((1, 1, 1),)), (x + one, ((0, 1, 0),)),
                         ((x + y).over(x), ((1, 1, 0),)), (x * x + y, ((1, 2, 2),)), (x + y + one, ()),
                         (number_of(2, (-3, 7)), ((1, 0, 0), (0, 1, 0))), (x.power(-2), ((1, 0, -2), (0, 1, 0))),
                         ((x * x - y * y).over(x - y), ((1, 1, 1),)), ((x * x - one).over(x - one), ((0, 1, 0),)),
                         ((x * y + y).over(x + one), ((1, 0, 0), (0, 1, 1))), (x.power(4) + y.power(6), ((3, 2, 12),))):
            self.assertEqual(shown(called(self, weights_of, f)), shown(basis))
        self.assertIsNone(weights_of(x - x))
        self.assertIsNone(weights_of(number_of(1, 0)))

    def test_all_weights_are_found(self):
        source = random.Random(471)
        some = 0
        for _ in range(150):
            size = source.choice((1, 2, 2, 3, 4))
            f = some_quotient(source, size)
            basis = called(self, weights_of, f)
            some += len(basis) > 0
            if basis:
                self.assertEqual(shown(basis), shown(basis_of(basis)))
                self.assertEqual(saturated(basis), basis)
            for row in basis:
                self.assertTrue(is_weight(f, row))
            box = itertools.product(range(-2, 3), repeat=size + 1)
            for weight in source.sample(list(box), 25):
                belongs = not any(weight) or (bool(basis) and in_lattice(basis, weight) is not None)
                self.assertIs(is_weight(f, weight), belongs, (f.top.terms, f.bottom.terms, weight))
        self.assertGreater(some, 60)

    def test_weights_multiply_values(self):
        source = random.Random(472)
        for _ in range(60):
            size = source.choice((1, 2, 3))
            f = some_quotient(source, size)
            for row in weights_of(f):
                t = Fraction(source.randint(1, 5), source.randint(1, 5))
                point = [Fraction(source.randint(1, 30), source.randint(1, 9)) for _ in range(size)]
                moved = [item * t ** many for item, many in zip(point, row)]
                try:
                    one, other = [fraction(f.at([pair(item) for item in place])) for place in (point, moved)]
                except ByZero:
                    continue
                self.assertEqual(other, one * t ** row[-1])


class Covariant(unittest.TestCase):
    def value(self, f, point):
        return fraction(f.at(point))

    def moved(self, point, change, exponents):
        return tuple([pair(fraction(item) * Fraction(2) ** degree(change, row)) for item, row in zip(point, exponents)])

    def check_point(self, point, size):
        self.assertIsInstance(point, tuple)
        self.assertEqual(len(point), size)
        self.assertTrue(all([is_lowest(item) and item[0] > 0 for item in point]))

    def check_change(self, change, width):
        self.assertIsInstance(change, tuple)
        self.assertEqual(len(change), width)
        self.assertTrue(all([item.__class__ is int for item in change]))

    def check_refuter(self, found, f, exponents, result):
        self.assertIs(found.__class__, Refuter)
        self.assertEqual(list(found.__dict__), ["point", "change", "first", "second"])
        self.check_point(found.point, f.size)
        self.check_change(found.change, len(result))
        one = self.value(f, found.point)
        other = self.value(f, self.moved(found.point, found.change, exponents))
        self.assertEqual(shown(found.first), shown(pair(other)))
        self.assertEqual(shown(found.second), shown(pair(one * Fraction(2) ** degree(found.change, result))))
        self.assertNotEqual(found.first, found.second)

    def check_no_result(self, found, f, exponents):
        self.assertIs(found.__class__, NoResult)
        self.assertEqual(list(found.__dict__), ["one", "other", "change"])
        self.check_change(found.change, len(exponents[0]))
        factors = []
        for point in (found.one, found.other):
            self.check_point(point, f.size)
            before = self.value(f, point)
            after = self.value(f, self.moved(point, found.change, exponents))
            self.assertNotEqual(before, 0)
            self.assertNotEqual(after, 0)
            factors.append(after / before)
        self.assertNotEqual(*factors)

    def check_all(self, f, exponents, result):
        """Checks what is told of exponents; returns whether the quotient is covariant, and for some result."""
        if is_nothing(f):
            due, some = True, None
        else:
            due = all([is_weight(f, [row[k] for row in exponents] + [result[k]]) for k in range(len(result))])
            some = result_of(f, exponents)
        self.assertIs(called(self, covariant, f, exponents, result), due)
        found = called(self, refuter, f, exponents, result)
        if due:
            self.assertIsNone(found)
        else:
            self.check_refuter(found, f, exponents, result)
        self.assertEqual(shown(called(self, result_of, f, exponents)), shown(some))
        if due and not is_nothing(f):
            self.assertEqual(shown(some), shown(result))
        found = called(self, no_result, f, exponents)
        if some is None and not is_nothing(f):
            self.check_no_result(found, f, exponents)
        else:
            self.assertIsNone(found)
        if some is not None:
            self.assertTrue(all([is_weight(f, [row[k] for row in exponents] + [some[k]]) for k in range(len(result))]))
        return due, some is not None

    def test_plain(self):
        x, y = letter_of(2, 0), letter_of(2, 1)
        f = (x * x + y).over(x)
        self.assertIs(covariant(f, ((1, 0), (2, 0)), (1, 0)), True)
        self.assertIs(covariant(f, [(1, 0), (2, 0)], (1, 0)), True)
        self.assertIs(covariant(f, ((1, 0), (2, 0)), (1, 1)), False)
        self.assertIs(covariant(f, ((1, 0), (2, 1)), (1, 0)), False)
        self.assertEqual(shown(result_of(f, ((1, -3), (2, -6)))), shown((1, -3)))
        self.assertIsNone(result_of(f, ((1, 0), (1, 0))))
        self.check_no_result(no_result(f, ((1, 0), (1, 0))), f, ((1, 0), (1, 0)))

    def test_nothing(self):
        zero = letter_of(2, 0) - letter_of(2, 0)
        for exponents, result in ((((1,), (2,)), (5,)), (((1, 2), (3, 4)), (5, 6))):
            self.check_all(zero, exponents, result)
            self.assertIs(covariant(zero, exponents, result), True)
            self.assertIsNone(result_of(zero, exponents))

    def test_random(self):
        source = random.Random(481)
        met = {(a, b): 0 for a, b in ((True, True), (False, True), (False, False))}
        for _ in range(300):
            size, width = source.choice((1, 2, 2, 3, 4)), source.choice((1, 2, 3))
            f = some_quotient(source, size)
            exponents, result = exponents_by(source, weights_of(f), size, width, source.random() < 0.5)
            met[self.check_all(f, exponents, result)] += 1
        self.assertGreater(min(met.values()), 40, met)

    def test_values_at_many_small_points(self):
        x, y, one = letter_of(2, 0), letter_of(2, 1), number_of(2, 1)
        vanishing = one
        for k in range(1, 13):
            vanishing = vanishing * (x - number_of(2, k))
        f = x * y + vanishing * y
        self.check_all(f, ((1,), (1,)), (2,))
        self.check_all((x * y).over(vanishing + x), ((1,), (1,)), (1,))
        for k in (1, 2, 8):
            y_off = one
            for j in range(1, 13):
                y_off = y_off * (y - number_of(2, j * k))
            self.check_all(x + y_off * (x - number_of(2, 1)), ((1, 0), (0, 0)), (1, 0))

    def test_large_results(self):
        f = letter_of(2, 0) + letter_of(2, 1).power(-12)
        self.check_all(f, ((20, 3), (-20, 1)), (3000, -2500))
        self.check_all(letter_of(1, 0), ((20, 1),), (20, 5000))
        self.check_all(letter_of(1, 0), ((20, 1),), (10 ** 5, 1))

    def test_wrong_shapes(self):
        f, zero, one_letter = letter_of(2, 0), letter_of(2, 0) - letter_of(2, 0), letter_of(1, 0)
        wrong = [None, 5, "ab", (), ((1,),), ((1,), (1,), (1,)), ((1,), [1]), [[1], [1]], ((1,), (1, 2)), ((), ()),
                 ((1,), None), {0: (1,), 1: (1,)}, ((1,), "a")]
        wrong += [((1,), (item,)) for item in NO_INTEGERS] + [((item,), (1,)) for item in NO_INTEGERS]
        for quotient in (f, zero):
            for exponents in wrong:
                for function in (covariant, refuter):
                    raised(self, BadMatrix, ("exponents",), function, quotient, exponents, (1,))
                    raised(self, BadMatrix, ("exponents",), function, quotient, exponents, None)
                for function in (result_of, no_result):
                    raised(self, BadMatrix, ("exponents",), function, quotient, exponents)
            for result in [None, 5, "a", (), (1, 2), [1], {0: 1}] + [(item,) for item in NO_INTEGERS]:
                for function in (covariant, refuter):
                    raised(self, BadMatrix, ("result",), function, quotient, ((1,), (1,)), result)
        raised(self, BadMatrix, ("exponents",), covariant, one_letter, (1,), (1,))
        self.assertIs(covariant(one_letter, [(1,)], (1,)), True)


class LikeParts(unittest.TestCase):
    def check(self, f):
        found = called(self, rewritten, f)
        self.assertIs(found.__class__, Quotient)
        if is_nothing(f):
            self.assertTrue(is_nothing(found))
            return
        self.assertTrue(same(found, f))
        for row in weights_of(f):
            for part in (found.top, found.bottom):
                self.assertEqual(len(set([degree(exponents, row[:-1]) for exponents, _ in part.terms])), 1)

    def test_plain(self):
        x, y = letter_of(2, 0), letter_of(2, 1)
        one = number_of(2, 1)
        for f in (x, x - x, (x * x - y * y).over(x - y), ((x + y) * (x + one)).over((x * x + y * y) * (x + one)),
                  number_of(2, 5), (x * y + y).over(x + one)):
            self.check(f)
        found = rewritten(((x + y) * (x + one)).over((x * x + y * y) * (x + one)))
        self.assertEqual(weights_of(((x + y) * (x + one)).over((x * x + y * y) * (x + one))), ((1, 1, -1),))
        self.assertEqual((len(found.top.terms), len(found.bottom.terms)), (2, 2))

    def test_random(self):
        source = random.Random(491)
        for _ in range(200):
            self.check(some_quotient(source, source.choice((1, 2, 3, 4))))


class ByText(unittest.TestCase):
    def test_quotients_are_covariant_for_units_by_text(self):
        units = Units("base m s")
        for line, more in (("x(a, b) = a*b + b*a", True), ("x(a, b) = (a^2-b^2)/(a-b)", True),
                           ("x(a, b, c) = a/b^3 + 2*c", True),
                           ("x(a, b) = (a+1)*b/(a+1)", False)):
            formulas = Formulas(units, line)
            general = general_units(formulas, "x")
            self.assertIs(general.__class__, General)
            f = formulas.quotient("x")
            for row in general.basis:
                exponents = tuple([(item, 3 * item) for item in row])
                self.assertIs(covariant(f, exponents[:-1], exponents[-1]), True)
            self.assertIs(len(general.basis) == len(weights_of(f)), more)


class TwoQuotients(unittest.TestCase):
    def check(self, f, g):
        found = called(self, apart, f, g)
        if f.top * g.bottom == g.top * f.bottom:
            self.assertIsNone(found)
            return
        self.assertIs(found.__class__, Apart)
        self.assertEqual(list(found.__dict__), ["point", "first", "second"])
        self.assertIsInstance(found.point, tuple)
        self.assertTrue(all([is_lowest(item) and item[0] > 0 for item in found.point]))
        self.assertEqual(shown(found.first), shown(f.at(found.point)))
        self.assertEqual(shown(found.second), shown(g.at(found.point)))
        self.assertNotEqual(found.first, found.second)

    def test_random(self):
        source = random.Random(531)
        for _ in range(150):
            size = source.choice((1, 2, 3, 4))
            f, g = some_quotient(source, size), some_quotient(source, size)
            factor = some_poly(source, size, 2)
            self.check(f, g)
            self.check(f, f)
            self.assertIsNone(apart(f, Quotient(f.top * factor, f.bottom * factor)))
            little = number_of(size, (1, 10 ** 40))
            self.check(f, f + little * letter_of(size, 0))
            self.check(f, number_of(size, 0))

    def test_agreeing_at_many_small_points(self):
        for size in (1, 2, 3):
            vanishing = number_of(size, 1)
            for k in range(1, 13):
                vanishing = vanishing * (letter_of(size, size - 1) - number_of(size, k))
            f = letter_of(size, 0)
            self.check(f, f + vanishing)
            self.check(f, f.over(vanishing))
            self.check(f.over(vanishing), (f + vanishing).over(vanishing))


class Limits(unittest.TestCase):
    def test_forty_terms(self):
        source = random.Random(541)
        for size, digits in ((4, 1), (4, 400), (2, 60)):
            parts = []
            for _ in range(4):
                terms = {tuple([source.randint(0, 12) for _ in range(size)]): 1 for _ in range(40)}
                parts.append(Poly(size, [(exponents, source.randint(1, 10 ** digits)) for exponents in terms]))
            f, g = Quotient(parts[0], parts[1]), Quotient(parts[2], parts[3])
            exponents = tuple([(source.randint(-20, 20), source.randint(-20, 20)) for _ in range(size)])
            self.assertEqual(weights_of(f), ())
            case = Covariant()
            case.check_refuter(refuter(f, exponents, (900, -7)), f, exponents, (900, -7))
            case.check_no_result(no_result(f, exponents), f, exponents)
            self.assertTrue(same(rewritten(f), f))
            self.assertIs(apart(f, g).__class__, Apart)


if __name__ == "__main__":
    unittest.main()
