"""Points [66] to [71]: systems, their scalings, and smaller systems."""

import random
import unittest
from fractions import Fraction

from allscales.errors import BadNumber
from allscales.matrices import basis_of, in_lattice, saturated
from allscales.polys import Poly
from allscales.quotients import Quotient, is_nothing, letter_of, number_of, put_in
from allscales.systems import Reduced, Scalings, System, carried_down, carried_up, reduced, scalings
from lattices import determinant, rank_of, times
from support import NO_INTEGERS, NO_RATIOS, called, fraction, in_other_terms, is_lowest, pair, raised, shown
from test_hanging import dot

WRONG_SIZES = NO_INTEGERS + (-1, -5)


def sum_of(size, monomials):
    """The quotient that is a sum of monomials with exponents of any sign; monomials are pairs (exponents, ratio)."""
    lowest = [min([exponents[j] for exponents, _ in monomials] + [0]) for j in range(size)]
    top = [(tuple([a - b for a, b in zip(exponents, lowest)]), ratio) for exponents, ratio in monomials]
    return Quotient(Poly(size, top), Poly(size, [(tuple([-item for item in lowest]), 1)]))


def monomials_of(f):
    """The dict from exponents of any sign to numbers of such a quotient."""
    below, divisor = f.bottom.terms[0]
    return {tuple([a - b for a, b in zip(exponents, below)]): fraction(number) / fraction(divisor)
            for exponents, number in f.top.terms}


def difference(row):
    """The exponents of the monomials of the difference of a row."""
    left, right = monomials_of(row[0]), monomials_of(row[2])
    gaps = {key: left.get(key, 0) - right.get(key, 0) for key in list(left) + list(right)}
    return [key for key in gaps if gaps[key] != 0]


def some_system(source, most=5):
    """A random system, many of them with scalings: letters in like monomials, letters that are nowhere."""
    size = source.randint(0, most)
    hidden = [[source.randint(-2, 2) for _ in range(size)] for _ in range(source.choice((0, 1, 1, 2)))]
    rows = []
    for _ in range(source.choice((0, 1, 1, 2, 3))):
        start = tuple([source.randint(-3, 3) for _ in range(size)])
        pool = [start]
        for _ in range(60):
            more = tuple([source.randint(-3, 3) for _ in range(size)])
            if not any(dot(row, [a - b for a, b in zip(more, start)]) for row in hidden):
                pool.append(more)
        sides = [sum_of(size, [(source.choice(pool), source.choice((1, -2, (3, 5), 7)))
                               for _ in range(source.randint(0, 2))]) for _ in range(2)]
        kind = source.random()
        if kind < 0.1:
            sides[1] = sides[0]
        rows.append((sides[0], source.choice(("=", "=", "<")), sides[1]))
    return System(size, rows)


def has_below(system):
    return any(sign == "<" for _, sign, _ in system.rows)


def some_point(source, many, above):
    """A random point without 0, all of it above 0 where that is asked."""
    numbers = [source.choice((1, 1, 2, 3, (1, 2), (5, 3), (2, 7))) for _ in range(many)]
    if not above:
        numbers = [pair(fraction(item) * source.choice((1, -1))) for item in numbers]
    return [in_other_terms(source, item) for item in numbers]


class Case(unittest.TestCase):
    def ratios(self, numbers, many):
        self.assertIsInstance(numbers, tuple)
        self.assertEqual(len(numbers), many)
        self.assertTrue(all(is_lowest(item) for item in numbers))

    def turned(self, down, up, basis, many):
        """Fails unless down and up are inverse, and the products of down and the basis are as promised."""
        for rows in (down, up):
            self.assertIsInstance(rows, tuple)
            self.assertEqual(len(rows), many)
            for row in rows:
                self.assertIsInstance(row, tuple)
                self.assertEqual(len(row), many)
                self.assertTrue(all(item.__class__ is int for item in row))
        one = tuple([tuple([1 if at == k else 0 for at in range(many)]) for k in range(many)])
        if many:
            self.assertEqual(times(down, up), one)
            self.assertEqual(times(up, down), one)
        for i, row in enumerate(down):
            self.assertEqual([dot(row, weight) for weight in basis], [1 if i == k else 0 for k in range(len(basis))])


class Systems(unittest.TestCase):
    def test_attributes(self):
        x, y = letter_of(2, 0), letter_of(2, 1)
        rows = [(x, "=", y), (x * y, "<", number_of(2, 1).over(x))]
        system = called(self, System, 2, rows)
        self.assertEqual(list(system.__dict__), ["size", "rows"])
        self.assertEqual((system.size, system.rows), (2, tuple(rows)))
        rows.append((x, "=", x))
        self.assertEqual(len(system.rows), 2)
        self.assertEqual(System(2, tuple(rows)).rows, tuple(rows))
        self.assertEqual((System(0, []).size, System(0, ()).rows), (0, ()))

    def test_wrong_sizes(self):
        for wrong in WRONG_SIZES:
            raised(self, BadNumber, ("size", wrong), System, wrong, [])
            raised(self, BadNumber, ("size", wrong), System, wrong, [5])

    def test_wrong_rows(self):
        x, y = letter_of(2, 0), letter_of(2, 1)
        good = (x, "=", y)
        wrong = [None, 5, "a", (), (x, "="), (x, "=", y, x), [x, "=", y], (x, "=", 1), (1, "=", y), (x.top, "=", y),
                 (x, "=", y.top), (x, "==", y), (x, ">", y), (x, None, y), (x, "", y), (x, 1, y), (x, ["="], y),
                 (x, ("=",), y), (x, "=<", y), (x.over(x + y), "=", y), (x, "=", x.over(x + y)),
                 (x, "<", number_of(2, 1).over(x - y)), (letter_of(3, 0), "=", y), (x, "=", letter_of(1, 0)),
                 ("x", "=", "y"), (None, "<", None)]
        for row in wrong:
            self.wrong_row(0, [row])
            self.wrong_row(1, [good, row, None])
            self.wrong_row(2, (good, good, row, good))

    def wrong_row(self, k, rows):
        try:
            System(2, rows)
        except BadNumber as error:
            self.assertEqual(shown((error.what, error.number)), shown(("row", k)))
        else:
            self.fail(f"a wrong row with the number {k}")

    def test_bottoms_of_one_term(self):
        x, y = letter_of(2, 0), letter_of(2, 1)
        system = System(2, [((x + y).over(x.power(3) * number_of(2, (7, 2))), "=", number_of(2, 0))])
        self.assertTrue(system.solved_at((3, -3)))
        self.assertFalse(system.solved_at((3, 3)))

    def test_solved_at(self):
        x, y = letter_of(2, 0), letter_of(2, 1)
        system = System(2, [(x * y, "=", number_of(2, 6)), (x, "<", y)])
        self.assertTrue(called(self, system.solved_at, (2, 3)))
        self.assertTrue(called(self, system.solved_at, [(2, 1), (9, 3)]))
        self.assertFalse(called(self, system.solved_at, [3, 2]))
        self.assertFalse(called(self, system.solved_at, [2, 4]))
        self.assertIs(system.solved_at(((1, 2), 12)), True)
        self.assertFalse(System(2, [(x, "<", y)]).solved_at((4, 4)))
        self.assertTrue(System(2, [(x, "<", y)]).solved_at((4, (4 * 10 ** 20 + 1, 10 ** 20))))
        self.assertTrue(System(2, []).solved_at((-1, 5)))
        self.assertTrue(System(0, []).solved_at(()))
        self.assertTrue(System(0, [(number_of(0, 1), "<", number_of(0, 2))]).solved_at([]))
        self.assertFalse(System(0, [(number_of(0, 1), "=", number_of(0, 2))]).solved_at([]))
        self.assertTrue(System(2, [(x.power(2), "=", y.power(-2))]).solved_at((-3, (1, 3))))

    def test_large_numbers(self):
        many = 10 ** 20
        x, y = letter_of(2, 0), letter_of(2, 1)
        system = System(2, [(x * number_of(2, many), "=", y * number_of(2, many - 1)), (y, "<", number_of(2, 3 * many))])
        self.assertTrue(system.solved_at((many - 1, many)))
        self.assertFalse(system.solved_at((many, many)))

    def test_wrong_points(self):
        x, y = letter_of(2, 0), letter_of(2, 1)
        equal = System(2, [(x, "=", y)])
        below = System(2, [(x, "=", y), (x, "<", y)])
        for system in (equal, below):
            for wrong in [None, 5, "ab", {}, (), (1,), (1, 2, 3), (0, 1), (1, 0), [1, (0, 7)], {1: 2, 3: 4}]:
                raised(self, BadNumber, ("point", wrong), system.solved_at, wrong)
            for item in NO_RATIOS:
                raised(self, BadNumber, ("point", (1, item)), system.solved_at, (1, item))
        for wrong in [(-1, 2), (1, -2), [1, (-1, 2)]]:
            raised(self, BadNumber, ("point", wrong), below.solved_at, wrong)
            self.assertFalse(equal.solved_at(wrong))
        raised(self, BadNumber, ("point", (1,)), System(0, []).solved_at, (1,))


class AllScalings(Case):
    def check(self, system):
        found = called(self, scalings, system)
        self.assertIs(found.__class__, Scalings)
        self.assertEqual(list(found.__dict__), ["basis", "factors"])
        gaps = [[a - b for a, b in zip(key, keys[0])] for keys in [difference(row) for row in system.rows]
                for key in keys[1:]]
        rank = rank_of(gaps) if gaps and system.size else 0
        self.assertEqual(len(found.basis), system.size - rank)
        for weight in found.basis:
            self.assertEqual([row for row in gaps if dot(row, weight) != 0], [])
        if found.basis:
            self.assertEqual(shown(found.basis), shown(basis_of(found.basis)))
            self.assertEqual(found.basis, saturated(found.basis))
        else:
            self.assertEqual(found.basis, ())
        self.assertEqual(len(found.factors), len(system.rows))
        for row, factors in zip(system.rows, found.factors):
            wanted = [[dot(weight, key) for key in difference(row)] or [0] for weight in found.basis]
            self.assertEqual(shown(factors), shown(tuple([items[0] for items in wanted])))
        return found

    def test_examples(self):
        x, y, z = [letter_of(3, j) for j in range(3)]
        found = self.check(System(3, [(x * y, "=", z)]))
        self.assertEqual((found.basis, found.factors), (((1, 0, 1), (0, 1, 1)), ((1, 1),)))
        found = self.check(System(3, [(x * y, "=", z), (x + number_of(3, 1), "<", y)]))
        self.assertEqual((found.basis, found.factors), ((), ((), ())))
        found = self.check(System(3, []))
        self.assertEqual((found.basis, found.factors), (((1, 0, 0), (0, 1, 0), (0, 0, 1)), ()))
        found = self.check(System(0, [(number_of(0, 1), "=", number_of(0, 1))]))
        self.assertEqual((found.basis, found.factors), ((), ((),)))

    def test_monomials_that_cancel(self):
        x, y = letter_of(2, 0), letter_of(2, 1)
        one = number_of(2, 1)
        # Of x + y = x + 1 only y - 1 is left, and nothing of x = x.
        found = self.check(System(2, [(x + y, "=", x + one), (x, "=", x)]))
        self.assertEqual((found.basis, found.factors), (((1, 0),), ((0,), (0,))))
        found = self.check(System(2, [((x * x).over(y), "<", x.power(2) * y.power(-1))]))
        self.assertEqual((found.basis, found.factors), (((1, 0), (0, 1)), ((0, 0),)))
        # The same number in other terms on both sides.
        found = self.check(System(2, [(x * number_of(2, (3, 6)) + y, "=", x.over(number_of(2, 2)))]))
        self.assertEqual((found.basis, found.factors), (((1, 0), (0, 1)), ((0, 1),)))

    def test_saturated(self):
        x, y = letter_of(2, 0), letter_of(2, 1)
        found = self.check(System(2, [(x.power(4), "=", y.power(6))]))
        self.assertEqual((found.basis, found.factors), (((3, 2),), ((12,),)))
        found = self.check(System(2, [(x.power(4), "=", y.power(-6))]))
        self.assertEqual((found.basis, found.factors), (((3, -2),), ((12,),)))

    def test_random(self):
        source = random.Random(1)
        ranks = {}
        for _ in range(400):
            system = some_system(source)
            found = self.check(system)
            key = (system.size, len(found.basis))
            ranks[key] = ranks.get(key, 0) + 1
        for size in range(4):
            for rank in range(size + 1):
                self.assertIn((size, rank), ranks)

    def test_a_scaled_point(self):
        source = random.Random(2)
        for _ in range(150):
            system = some_system(source)
            found = scalings(system)
            point = [fraction(item) for item in some_point(source, system.size, True)]
            scales = [Fraction(source.choice((2, 3, 5))) for _ in found.basis]
            moved = list(point)
            for scale, weight in zip(scales, found.basis):
                moved = [item * scale ** power for item, power in zip(moved, weight)]
            for (left, _, right), powers in zip(system.rows, found.factors):
                factor = Fraction(1)
                for scale, power in zip(scales, powers):
                    factor *= scale ** power
                ahead, behind = [fraction(left.at(at)) - fraction(right.at(at))
                                 for at in ([pair(item) for item in point], [pair(item) for item in moved])]
                self.assertEqual(behind, factor * ahead)


class Smaller(Case):
    def check(self, system):
        found = called(self, reduced, system)
        self.assertIs(found.__class__, Reduced)
        self.assertEqual(list(found.__dict__), ["system", "down", "up"])
        basis = scalings(system).basis
        self.turned(found.down, found.up, basis, system.size)
        rank = len(basis)
        small = found.system
        self.assertIs(small.__class__, System)
        self.assertEqual(small.size, system.size - rank)
        rows = [row[rank:] for row in found.up]
        wanted = tuple([(put_in(left, small.size, rows), sign, put_in(right, small.size, rows))
                        for left, sign, right in system.rows])
        self.assertEqual(shown(small.rows), shown(wanted))
        return found

    def test_examples(self):
        x, y, z = [letter_of(3, j) for j in range(3)]
        found = self.check(System(3, [(x * y, "=", z)]))
        self.assertEqual(found.system.size, 1)
        found = self.check(System(3, [(x, "=", y + number_of(3, 1)), (y, "=", z)]))
        self.assertEqual(found.system.size, 3)
        found = self.check(System(3, []))
        self.assertEqual((found.system.size, found.system.rows), (0, ()))
        found = self.check(System(0, []))
        self.assertEqual((found.down, found.up, found.system.size), ((), (), 0))
        found = self.check(System(2, [(letter_of(2, 0), "<", letter_of(2, 0))]))
        self.assertEqual([is_nothing(found.system.rows[0][0]), found.system.size], [False, 0])

    def test_down_and_up_again(self):
        source = random.Random(3)
        seen = {}
        for _ in range(300):
            system = some_system(source)
            found = self.check(system)
            if max([abs(item) for row in found.down + found.up for item in row] + [0]) > 40:
                continue
            above = has_below(system)
            point = source.choice((list, tuple))(some_point(source, system.size, above))
            factors, small = called(self, carried_down, found, point)
            rank = system.size - found.system.size
            self.ratios(factors, rank)
            self.ratios(small, system.size - rank)
            for row, item in zip(found.down, factors + small):
                wanted = Fraction(1)
                for number, power in zip(point, row):
                    wanted *= fraction(number) ** power
                self.assertEqual(pair(wanted), item)
            back = called(self, carried_up, found, factors, small)
            self.assertEqual(back, tuple([pair(fraction(item)) for item in point]))
            solved = system.solved_at(point)
            self.assertEqual(solved, found.system.solved_at(small))
            # The first new letters may be any ratios.
            other = some_point(source, rank, above)
            moved = called(self, carried_up, found, other, list(small))
            self.ratios(moved, system.size)
            self.assertEqual(system.solved_at(moved), solved)
            self.assertEqual(carried_down(found, moved), (tuple([pair(fraction(item)) for item in other]), small))
            seen[(solved, above)] = seen.get((solved, above), 0) + 1
        self.assertEqual(len(seen), 4)
        self.assertGreater(min(seen.values()), 10)

    def test_planted_points(self):
        # A point is led up and down again for a system that it solves.
        source = random.Random(4)
        for _ in range(100):
            size = source.randint(1, 4)
            point = some_point(source, size, True)
            rows = []
            for _ in range(source.randint(1, 3)):
                left, right = [sum_of(size, [(tuple([source.randint(-2, 2) for _ in range(size)]), source.randint(1, 4))])
                               for _ in range(2)]
                scale = fraction(left.at(point)) / fraction(right.at(point))
                rows.append((left, "=", right * number_of(size, pair(scale))))
                rows.append((left, "<", right * number_of(size, pair(scale + Fraction(1, 10 ** 20)))))
            system = System(size, rows)
            found = self.check(system)
            factors, small = carried_down(found, point)
            self.assertTrue(system.solved_at(point))
            self.assertTrue(found.system.solved_at(small))
            moved = carried_up(found, some_point(source, len(factors), True), small)
            self.assertTrue(system.solved_at(moved))

    def test_negative_numbers_and_large_ones(self):
        x, y, z = [letter_of(3, j) for j in range(3)]
        found = self.check(System(3, [(x * x, "=", y * z)]))
        many = 10 ** 400 - 1
        factors, small = carried_down(found, (-many, (1, many), 2))
        self.assertEqual(carried_up(found, factors, small), ((-many, 1), (1, many), (2, 1)))

    def test_wrong_arguments(self):
        x, y, z = [letter_of(3, j) for j in range(3)]
        for sign in ("=", "<"):
            found = self.check(System(3, [(x * y, sign, z)]))
            small = (5,)
            factors = (2, 3)
            wrong = [None, 5, "ab", {}, (0, 1, 1), (1, (0, 3), 1), [1, 2, None], (1, 2, True)]
            for value in wrong + [(), (1, 2), (1, 2, 3, 4)]:
                raised(self, BadNumber, ("point", value), carried_down, found, value)
            for value in wrong + [(1,), (1, 0), (0, 1), (1, 2, 3), (1, 1.0)]:
                raised(self, BadNumber, ("factors", value), carried_up, found, value, small)
                raised(self, BadNumber, ("factors", value), carried_up, found, value, None)
            for value in wrong + [(), (0,), (1, 2), ((0, 2),)]:
                raised(self, BadNumber, ("point", value), carried_up, found, factors, value)
        for value in [(-1, 1, 1), (1, 1, (-1, 2))]:
            raised(self, BadNumber, ("point", value), carried_down, found, value)
        raised(self, BadNumber, ("factors", (1, -2)), carried_up, found, (1, -2), small)
        raised(self, BadNumber, ("point", (-2,)), carried_up, found, factors, (-2,))

    def test_wrong_arguments_without_letters(self):
        found = self.check(System(2, []))
        self.assertEqual(carried_down(found, (-3, 4)), (((-3, 1), (4, 1)), ()))
        self.assertEqual(carried_up(found, [-3, 4], []), ((-3, 1), (4, 1)))
        raised(self, BadNumber, ("point", (1,)), carried_up, found, (1, 2), (1,))
        x, y = letter_of(2, 0), letter_of(2, 1)
        found = self.check(System(2, [(x, "=", y + number_of(2, 1)), (x, "=", y * y)]))
        self.assertEqual(carried_up(found, (), (7, 8)), ((7, 1), (8, 1)))
        raised(self, BadNumber, ("factors", (1,)), carried_up, found, (1,), (7, 8))

    def test_limits(self):
        # Six letters, eight rows, 40 terms of exponents from -16 to 16.
        source = random.Random(5)
        for hidden in ([1, 2, 0, -1, 3, 1], [6, -5, 4, 3, -6, 5]):
            rows = []
            for _ in range(8):
                start = [source.randint(-3, 3) for _ in range(6)]
                terms = []
                while len(terms) < 40:
                    step = [source.randint(-6, 6) for _ in range(6)]
                    step[0] -= dot(step, hidden) if hidden[0] == 1 else 0
                    powers = tuple([a + b for a, b in zip(start, step)])
                    if dot(step, hidden) == 0 and all(-16 <= item <= 16 for item in powers):
                        terms.append((powers, source.randint(-10 ** 20, 10 ** 20)))
                rows.append((sum_of(6, terms), source.choice(("=", "<")), sum_of(6, terms[:20])))
            system = System(6, rows)
            found = self.check(system)
            self.assertEqual(in_lattice(scalings(system).basis, hidden) is None, False)
            point = some_point(source, 6, True)
            self.assertEqual(carried_up(found, *carried_down(found, point)),
                             tuple([pair(fraction(item)) for item in point]))
            self.assertLessEqual(max([abs(item) for row in found.down for item in row]), 6)
            self.assertEqual(abs(determinant(found.down)), 1)


if __name__ == "__main__":
    unittest.main()
