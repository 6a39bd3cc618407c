"""Points [72] to [75]: recurrences, their weights, runs, and what a step does to new letters."""

import random
import unittest
from fractions import Fraction

from allscales.errors import BadNumber, ByZero
from allscales.matrices import basis_of, saturated
from allscales.polys import Poly
from allscales.quotients import Quotient, letter_of, number_of, same
from allscales.systems import Recurrence, Steps, reduced_recurrence, run, weights_of_steps
from lattices import rank_of
from support import NO_INTEGERS, NO_RATIOS, called, fraction, in_other_terms, pair, raised, shown
from test_hanging import dot
from test_systems import WRONG_SIZES, Case

WRONG_STEPS = NO_INTEGERS + (-1, -8)


def letters(size):
    """The quotients that are the letters."""
    return [letter_of(size, j) for j in range(size)]


def logistic():
    """x goes to r * x * (k - x) / k; r and k are constants."""
    x, r, k = letters(3)
    return Recurrence(3, [r * x * (k - x).over(k), r, k])


def newton():
    """x goes to (x + a / x) / 2; a is a constant."""
    x, a = letters(2)
    return Recurrence(2, [(x + a.over(x)).over(number_of(2, 2)), a])


def equations(recurrence):
    """Rows whose products with a tuple are all 0 exactly if it is a weight."""
    rows = []
    for j, quotient in enumerate(recurrence.rows):
        above = [powers for powers, _ in quotient.top.terms]
        below = [powers for powers, _ in quotient.bottom.terms]
        for terms in (above, below):
            rows += [[a - b for a, b in zip(powers, terms[0])] for powers in terms]
        rows.append([a - b - (1 if at == j else 0) for at, (a, b) in enumerate(zip(above[0], below[0]))])
    return rows


def some_recurrence(source, most=4):
    """A random recurrence, many of them with weights that were planted."""
    size = source.randint(1, most)
    planted = [[source.randint(-2, 2) for _ in range(size)] for _ in range(source.choice((0, 1, 1, 2)))]

    def like(wanted, many):
        found = []
        for _ in range(80):
            powers = tuple([source.randint(0, 3) for _ in range(size)])
            if len(found) < many and [dot(row, powers) for row in planted] == wanted:
                found.append((powers, source.choice((1, 1, -1, 2, 3))))
        return list(dict(found).items())

    rows = []
    for j in range(size):
        start = [source.randint(0, 2) for _ in range(size)]
        bottom = like([dot(row, start) for row in planted], source.choice((1, 1, 2)))
        wanted = [dot(row, start) + row[j] for row in planted]
        top = like(wanted, source.choice((1, 2)))
        if source.random() < 0.3 or not bottom or not top:
            rows.append(letter_of(size, j))
        else:
            rows.append(Quotient(Poly(size, top), Poly(size, bottom)))
    return Recurrence(size, rows)


class Recurrences(unittest.TestCase):
    def test_attributes(self):
        x, y = letters(2)
        rows = [x + y, y]
        recurrence = called(self, Recurrence, 2, rows)
        self.assertEqual(list(recurrence.__dict__), ["size", "rows"])
        rows.append(x)
        rows[0] = y
        self.assertEqual((recurrence.size, recurrence.rows), (2, (x + y, y)))
        self.assertEqual(Recurrence(2, (x, y)).rows, (x, y))

    def test_wrong_sizes(self):
        for wrong in WRONG_SIZES + (0,):
            raised(self, BadNumber, ("size", wrong), Recurrence, wrong, [])
            raised(self, BadNumber, ("size", wrong), Recurrence, wrong, [letter_of(1, 0)])

    def wrong_row(self, k, size, rows):
        try:
            Recurrence(size, rows)
        except BadNumber as error:
            self.assertEqual(shown((error.what, error.number)), shown(("row", k)))
        else:
            self.fail(f"a wrong row with the number {k}")

    def test_wrong_rows(self):
        x, y = letters(2)
        for wrong in (None, 1, (1, 2), "x", x.top, letter_of(1, 0), letter_of(3, 0), number_of(2, 0), [x]):
            self.wrong_row(0, 2, [wrong, y])
            self.wrong_row(1, 2, [x, wrong])
            self.wrong_row(1, 2, (x, wrong, y))
            # Too many or too few items are told behind the wrong ones.
            self.wrong_row(0, 2, [wrong])
            self.wrong_row(0, 2, [wrong, x, y, y])
            self.wrong_row(2, 2, [x, y, wrong])
        self.wrong_row(2, 2, [])
        self.wrong_row(2, 2, [x])
        self.wrong_row(2, 2, [x, y, y])
        self.wrong_row(1, 1, [])

    def test_zero_that_is_hidden(self):
        x, y = letters(2)
        self.wrong_row(0, 2, [x - x, y])
        self.assertEqual(Recurrence(2, [x.over(x), y]).rows[0], number_of(2, 1))


class Weights(Case):
    def check(self, recurrence):
        found = called(self, weights_of_steps, recurrence)
        rows = equations(recurrence)
        self.assertIsInstance(found, tuple)
        self.assertEqual(len(found), recurrence.size - rank_of(rows))
        for weight in found:
            self.assertEqual([row for row in rows if dot(row, weight) != 0], [])
        if found:
            self.assertEqual(shown(found), shown(basis_of(found)))
            self.assertEqual(found, saturated(found))
        return found

    def test_examples(self):
        self.assertEqual(self.check(logistic()), ((1, 0, 1),))
        self.assertEqual(self.check(newton()), ((1, 2),))
        x, y = letters(2)
        self.assertEqual(self.check(Recurrence(2, [x, y])), ((1, 0), (0, 1)))
        self.assertEqual(self.check(Recurrence(2, [x + number_of(2, 1), y])), ((0, 1),))
        self.assertEqual(self.check(Recurrence(2, [x + y, x + number_of(2, 1)])), ())
        self.assertEqual(self.check(Recurrence(2, [y, x])), ((1, 1),))
        self.assertEqual(self.check(Recurrence(1, [letter_of(1, 0).power(2)])), ())
        self.assertEqual(self.check(Recurrence(1, [number_of(1, 5)])), ())
        self.assertEqual(self.check(Recurrence(2, [x * y, y])), ((1, 0),))
        self.assertEqual(self.check(Recurrence(2, [x.over(y), y])), ((1, 0),))
        # Terms that could be cancelled are not: x * (x + 1) / (x + 1).
        more = x + number_of(2, 1)
        self.assertEqual(self.check(Recurrence(2, [(x * more).over(more), y])), ((0, 1),))

    def test_random(self):
        source = random.Random(1)
        ranks = {}
        for _ in range(300):
            recurrence = some_recurrence(source)
            key = (recurrence.size, len(self.check(recurrence)))
            ranks[key] = ranks.get(key, 0) + 1
        self.assertGreater(len(ranks), 9)

    def test_scaled_letters_go_on_scaled(self):
        source = random.Random(2)
        for _ in range(100):
            recurrence = some_recurrence(source)
            for weight in weights_of_steps(recurrence):
                start = [Fraction(source.randint(1, 5), source.randint(1, 3)) for _ in weight]
                scaled = [item * Fraction(3, 2) ** power for item, power in zip(start, weight)]
                try:
                    plain = run(recurrence, [pair(item) for item in start], 1)[1]
                except ByZero:
                    continue
                moved = run(recurrence, [pair(item) for item in scaled], 1)[1]
                self.assertEqual(moved, tuple([pair(fraction(item) * Fraction(3, 2) ** power)
                                               for item, power in zip(plain, weight)]))


class Runs(Case):
    def test_examples(self):
        found = called(self, run, newton(), (1, 2), 3)
        self.assertEqual(found, (((1, 1), (2, 1)), ((3, 2), (2, 1)), ((17, 12), (2, 1)), ((577, 408), (2, 1))))
        self.assertEqual(called(self, run, newton(), [(6, 3), (4, 2)], 0), (((2, 1), (2, 1)),))
        x, y = letters(2)
        found = run(Recurrence(2, [y, x + y]), (0, 1), 8)
        self.assertEqual([point[0][0] for point in found], [0, 1, 1, 2, 3, 5, 8, 13, 21])
        found = run(logistic(), ((1, 2), 3, 1), 2)
        self.assertEqual(found[2][0], pair(Fraction(9, 16)))

    def test_all_letters_at_once(self):
        x, y = letters(2)
        self.assertEqual(run(Recurrence(2, [y, x]), (5, -7), 3), (((5, 1), (-7, 1)), ((-7, 1), (5, 1))) * 2)

    def test_random(self):
        source = random.Random(3)
        for _ in range(150):
            recurrence = some_recurrence(source)
            start = [in_other_terms(source, source.choice((0, 1, -1, 2, (1, 3), (-5, 2)))) for _ in recurrence.rows]
            steps = source.randint(0, 3)
            point = tuple([pair(fraction(item)) for item in start])
            wanted = [point]
            try:
                for k in range(steps):
                    wanted.append(tuple([row.at(wanted[-1]) for row in recurrence.rows]))
            except ByZero:
                raised(self, ByZero, (len(wanted) - 1,), run, recurrence, start, steps)
            else:
                found = called(self, run, recurrence, source.choice((list, tuple))(start), steps)
                self.assertEqual(shown(found), shown(tuple(wanted)))
                self.ratios(found[-1], recurrence.size)

    def test_by_zero(self):
        x, y = letters(2)
        one = number_of(2, 1)
        falling = Recurrence(2, [x - one, y.over(x)])
        self.assertEqual(run(falling, (2, 1), 2)[2], ((0, 1), (1, 2)))
        # At the last point a bottom may be 0.
        raised(self, ByZero, (2,), run, falling, (2, 1), 3)
        raised(self, ByZero, (2,), run, falling, (2, 1), 8)
        raised(self, ByZero, (0,), run, falling, (0, 1), 1)
        self.assertEqual(run(falling, (0, 1), 0), (((0, 1), (1, 1)),))
        raised(self, ByZero, (0,), run, newton(), (0, 5), 3)

    def test_zero_is_a_point(self):
        self.assertEqual(run(logistic(), (0, 0, 1), 8)[-1], ((0, 1), (0, 1), (1, 1)))

    def test_long_numbers(self):
        x = letter_of(1, 0)
        found = run(Recurrence(1, [x * x]), ((10 ** 15 + 37, 10 ** 15),), 8)
        self.assertEqual(found[8][0], ((10 ** 15 + 37) ** 256, 10 ** 3840))

    def test_wrong_values(self):
        recurrence = newton()
        for wrong in [None, 5, "ab", {}, {1: 2, 3: 4}, (), (1,), (1, 2, 3)] + [(1, item) for item in NO_RATIOS]:
            raised(self, BadNumber, ("point", wrong), run, recurrence, wrong, 1)
            raised(self, BadNumber, ("point", wrong), run, recurrence, wrong, -1)
        for wrong in WRONG_STEPS:
            raised(self, BadNumber, ("steps", wrong), run, recurrence, (1, 2), wrong)
            raised(self, BadNumber, ("steps", wrong), run, recurrence, (0, 2), wrong)


class Reduction(Case):
    def check(self, recurrence):
        found = called(self, reduced_recurrence, recurrence)
        self.assertIs(found.__class__, Steps)
        self.assertEqual(list(found.__dict__), ["factors", "rows", "down", "up"])
        basis = weights_of_steps(recurrence)
        many = recurrence.size
        self.turned(found.down, found.up, basis, many)
        for quotients, wanted in ((found.factors, len(basis)), (found.rows, many - len(basis))):
            self.assertIsInstance(quotients, tuple)
            self.assertEqual(len(quotients), wanted)
            for quotient in quotients:
                self.assertIs(quotient.__class__, Quotient)
                self.assertEqual(quotient.size, many - len(basis))
        return found

    def leads_on(self, source, recurrence, found):
        """Whether a run could be followed with the new letters."""
        start = [pair(Fraction(source.choice((1, 2, 3, 5, -2, -7)), source.choice((1, 2, 3)))) for _ in recurrence.rows]
        try:
            points = run(recurrence, start, 2)
        except ByZero:
            return False
        if any(item[0] == 0 for point in points for item in point):
            return False
        turned = [self.carried(found.down, point) for point in points]
        rank = len(found.factors)
        for now, then in zip(turned, turned[1:]):
            small = [pair(item) for item in now[rank:]]
            for k, factor in enumerate(found.factors):
                self.assertEqual(now[k] * fraction(factor.at(small)), then[k])
            self.assertEqual([fraction(row.at(small)) for row in found.rows], then[rank:])
        return True

    def carried(self, down, point):
        values = []
        for row in down:
            value = Fraction(1)
            for item, power in zip(point, row):
                value *= fraction(item) ** power
            values.append(value)
        return values

    def test_examples(self):
        source = random.Random(4)
        found = self.check(newton())
        self.assertEqual((len(found.factors), len(found.rows)), (1, 1))
        self.assertTrue(self.leads_on(source, newton(), found))
        found = self.check(logistic())
        self.assertEqual((len(found.factors), len(found.rows)), (1, 2))
        self.assertTrue(self.leads_on(source, logistic(), found))

    def test_all_ranks(self):
        x, y = letters(2)
        found = self.check(Recurrence(2, [x, y]))
        self.assertEqual((len(found.factors), found.rows), (2, ()))
        self.assertTrue(all(same(factor, number_of(0, 1)) for factor in found.factors))
        recurrence = Recurrence(2, [x + y, x + number_of(2, 1)])
        found = self.check(recurrence)
        self.assertEqual((found.factors, len(found.rows)), ((), 2))
        source = random.Random(5)
        self.assertTrue(any([self.leads_on(source, recurrence, found) for _ in range(9)]))
        recurrence = Recurrence(1, [number_of(1, 3) * letter_of(1, 0)])
        found = self.check(recurrence)
        self.assertTrue(same(found.factors[0], number_of(0, 3)) or same(found.factors[0], number_of(0, (1, 3))))

    def test_random(self):
        source = random.Random(6)
        ranks = {}
        led = 0
        for _ in range(250):
            recurrence = some_recurrence(source)
            if max([abs(item) for row in weights_of_steps(recurrence) for item in row] + [0]) > 6:
                continue
            found = self.check(recurrence)
            ranks[len(found.factors)] = ranks.get(len(found.factors), 0) + 1
            led += 1 if self.leads_on(source, recurrence, found) else 0
        self.assertGreater(led, 120)
        self.assertGreater(min([ranks[rank] for rank in (0, 1, 2)]), 20)

    def test_limits(self):
        # Six letters, 40 terms in all, exponents up to 16: the letters but the first two are constants.
        source = random.Random(7)
        weight = [1, 2, 3, -1, 2, 1]
        x = letters(6)
        rows = list(x)
        for j in (0, 1):
            terms = []
            while len(terms) < 20:
                powers = [source.randint(0, 4) for _ in range(6)]
                powers[0] = 20 + weight[j] - dot(powers, weight) + powers[0]
                if 0 <= powers[0] <= 16:
                    terms.append((tuple(powers), source.randint(1, 10 ** 20)))
            rows[j] = Quotient(Poly(6, terms[:10]), Poly(6, [((16, 2, 0, 0, 0, 0), 1)]))
        recurrence = Recurrence(6, rows)
        found = self.check(recurrence)
        self.assertTrue(self.leads_on(source, recurrence, found))

    def test_like_bottoms_are_cancelled(self):
        # All letters have one bottom of 12 terms; the powers of it do not add up.
        size = 4
        x = letters(size)
        bottom = number_of(size, 0)
        for k in range(12):
            bottom = bottom + x[k % 4].power(k % 3) * x[3].power(2) * x[(k + 1) % 4].power(2 - k % 3)
        rows = [(x[j] * x[j] * x[3].power(3) + x[0] * x[j] * x[3].power(3)).over(bottom) for j in range(size)]
        recurrence = Recurrence(size, rows)
        found = self.check(recurrence)
        self.assertTrue(self.leads_on(random.Random(8), recurrence, found))
        self.assertTrue(all(len(row.top.terms) <= 4 and len(row.bottom.terms) <= 4 for row in found.rows))


if __name__ == "__main__":
    unittest.main()
