"""Points [59] to [65]: groups of letters, and base letters."""

import itertools
import random
import unittest
from fractions import Fraction

from allscales.errors import BadMatrix, BadNumber, TooMany, Unlike
from allscales.groups import Groups, bar_of, base_sets, by_base, groups_of, groups_within, in_groups
from allscales.matrices import alike_lattices, basis_of, kernel
from allscales.polys import Poly
from allscales.quotients import Quotient, is_nothing, letter_of, number_of, put_in, same
from lattices import determinant, rank_of, times
from support import NO_INTEGERS, called, fraction, is_lowest, pair, raised, shown
from test_hanging import WRONG_EXPONENTS, dot


def some_letters(source, most=7, wide=5):
    """Random exponents of letters: without unit, like others, doubled ones."""
    width = source.randint(1, wide)
    limit = source.choice((1, 2, 5))
    rows = [tuple([source.randint(-limit, limit) for _ in range(width)]) for _ in range(source.randint(1, most))]
    for k in range(len(rows)):
        kind = source.random()
        if kind < 0.12:
            rows[k] = (0,) * width
        elif kind < 0.3:
            rows[k] = source.choice(rows)
        elif kind < 0.45:
            rows[k] = tuple([2 * item for item in source.choice(rows)])
    return tuple(rows)


def units_of(rows, powers):
    """The exponents of the unit of a product of powers of letters."""
    return tuple([dot(powers, [row[at] for row in rows]) for at in range(len(rows[0]))])


def is_group(rows, powers):
    return not any(units_of(rows, powers))


class Case(unittest.TestCase):
    def whole_rows(self, rows, many, width):
        self.assertIsInstance(rows, tuple)
        self.assertEqual(len(rows), many)
        for row in rows:
            self.assertIsInstance(row, tuple)
            self.assertEqual(len(row), width)
            self.assertTrue(all([item.__class__ is int for item in row]))


class AllGroups(Case):
    def check(self, rows):
        found = called(self, groups_of, rows)
        self.assertIs(found.__class__, Groups)
        self.assertEqual(list(found.__dict__), ["basis", "down", "up"])
        many = len(rows)
        rank = rank_of(rows)
        self.assertEqual(shown(found.basis), shown(kernel([[row[at] for row in rows] for at in range(len(rows[0]))])))
        self.whole_rows(found.basis, many - rank, many)
        self.whole_rows(found.down, many, many)
        self.whole_rows(found.up, many, many)
        self.assertEqual(found.down[rank:], found.basis)
        one = tuple([tuple([int(at == k) for at in range(many)]) for k in range(many)])
        self.assertEqual(times(found.down, found.up), one)
        self.assertEqual(times(found.up, found.down), one)
        for group in found.basis:
            self.assertTrue(is_group(rows, group))
        return found

    def test_plain(self):
        for rows, basis in (([[1, 0], [0, 1]], ()), ([[0, 0]], ((1,),)), ([[1], [1]], ((1, -1),)),
                            ([[1], [2]], ((2, -1),)),
                            (((2,), (3,), (0,)), ((3, -2, 0), (0, 0, 1))), ([(0,), (0,)], ((1, 0), (0, 1)))):
            self.assertEqual(shown(self.check(rows).basis), shown(basis))

    def test_random(self):
        source = random.Random(611)
        for _ in range(300):
            self.check(some_letters(source))

    def test_all_groups_are_found(self):
        source = random.Random(612)
        for _ in range(60):
            rows = some_letters(source, 4, 3)
            basis = groups_of(rows).basis
            for powers in itertools.product(range(-2, 3), repeat=len(rows)):
                if is_group(rows, powers) and any(powers):
                    self.assertTrue(basis and alike_lattices(basis, list(basis) + [powers]))

    def test_many_letters(self):
        source = random.Random(613)
        self.check(tuple([tuple([source.randint(-3, 3) for _ in range(30)]) for _ in range(60)]))
        found = self.check(((10 ** 399 + 1,), (10 ** 398 + 7,), (3,)))
        self.assertEqual(len(found.basis), 2)

    def test_base_units_that_no_letter_has(self):
        source = random.Random(651)
        for _ in range(50):
            rows = some_letters(source, 5, 3)
            wider = tuple([row[:1] + (0,) + row[1:] for row in rows])
            self.assertEqual(groups_of(wider).basis, groups_of(rows).basis)


class InGroups(Case):
    def check(self, f, rows, source):
        found = called(self, in_groups, f, rows)
        groups = groups_of(rows)
        rank = rank_of(rows)
        self.assertIs(found.__class__, Quotient)
        self.assertEqual(found.size, len(rows) - rank)
        due = put_in(f, len(rows) - rank, [row[rank:] for row in groups.up])
        self.assertEqual(shown(found), shown(due))
        for _ in range(3):
            point = [Fraction(source.choice((-3, -1, 1, 2, 5, 7)), source.choice((1, 2, 3))) for _ in rows]
            if f.bottom.at([pair(item) for item in point]) == (0, 1):
                continue
            values = []
            for group in groups.basis:
                value = Fraction(1)
                for item, power in zip(point, group):
                    value *= item ** power
                values.append(pair(value))
            self.assertEqual(found.at(values), f.at([pair(item) for item in point]))
        return found

    def test_plain(self):
        source = random.Random(620)
        x, y, z = [letter_of(3, j) for j in range(3)]
        rows = ((1, 0), (1, 0), (0, 1))
        self.assertEqual(shown(self.check((x + y).over(x - y), rows, source)),
                         shown((letter_of(1, 0) + number_of(1, 1)).over(letter_of(1, 0) - number_of(1, 1))))
        self.assertEqual(shown(in_groups(z.over(z), rows)), shown(number_of(1, 1)))
        self.assertEqual(shown(in_groups(x - x, rows)), shown(number_of(1, 0)))
        self.assertEqual(shown(in_groups(number_of(1, (2, 3)), [[5]])), shown(number_of(0, (2, 3))))
        self.assertEqual(shown(in_groups(number_of(1, 0), [[5]])), shown(number_of(0, 0)))

    def test_random(self):
        source = random.Random(621)
        done = 0
        while done < 200:
            rows = some_letters(source, 6, 3)
            groups = groups_of(rows)
            many = len(groups.basis)
            if many == 0 or max([abs(item) for group in groups.basis for item in group]) > 8:
                continue
            top = Poly(many, [(tuple([source.randint(0, 2) for _ in range(many)]), source.choice((-3, 1, 2)))
                              for _ in range(source.randint(0, 3))])
            bottom = Poly(many, [(tuple([source.randint(0, 2) for _ in range(many)]), k + 1) for k in range(2)])
            told = Quotient(top, bottom)
            f = put_in(told, len(rows), groups.basis)
            if source.random() < 0.5:
                letter = letter_of(len(rows), source.randrange(len(rows))).power(source.randint(1, 3))
                f = Quotient(f.top * letter.top, f.bottom * letter.top)
            done += 1
            found = self.check(f, rows, source)
            self.assertTrue(same(found, told))
            self.assertIs(is_nothing(found), is_nothing(f))
            self.unlike(source, f, rows)

    def unlike(self, source, f, rows):
        """Multiplies one term by a letter, and looks for the first term that differs."""
        terms = list(f.top.terms + f.bottom.terms)
        at = source.randrange(len(terms))
        j = source.randrange(len(rows))
        exponents, ratio = terms[at]
        terms[at] = (exponents[:j] + (exponents[j] + 1,) + exponents[j + 1:], ratio)
        many = len(f.top.terms)
        top, bottom = Poly(f.size, terms[:many]), Poly(f.size, terms[many:])
        if not bottom.terms:
            return
        turned = Quotient(top, bottom)
        units = [units_of(rows, exponents) for exponents, _ in turned.top.terms + turned.bottom.terms]
        differing = [k for k, unit in enumerate(units) if unit != units[0]]
        if differing:
            raised(self, Unlike, (differing[0], units[0], units[differing[0]]), in_groups, turned, rows)
        else:
            self.check(turned, rows, source)

    def test_wrong(self):
        x, y = letter_of(2, 0), letter_of(2, 1)
        rows = ((1, 0), (1, 1))
        for A in WRONG_EXPONENTS:
            raised(self, BadMatrix, ("exponents",), in_groups, x + y, A)
        raised(self, BadNumber, ("size", 2), in_groups, x + y, [[1]])
        raised(self, BadNumber, ("size", 2), in_groups, x - x, [[1]] * 3)
        raised(self, BadNumber, ("size", 0), in_groups, number_of(0, 1), [[1]])
        raised(self, Unlike, (1, (1, 1), (1, 0)), in_groups, x + y, rows)
        raised(self, Unlike, (1, (1, 0), (0, 0)), in_groups, x, rows)
        raised(self, Unlike, (2, (2, 0), (1, 0)), in_groups, (x * y + y * y).over(x), ((1, 0), (1, 0)))
        raised(self, Unlike, (1, (0, 0), (1, 0)), in_groups, number_of(2, 1).over(x), rows)
        raised(self, Unlike, (1, (0, 0), (1, 1)), in_groups, x.over(x + y), ((0, 0), (1, 1)))

    def test_large_exponents(self):
        source = random.Random(622)
        f = Quotient(Poly(3, [((2000, 0, 1000), 2), ((0, 2000, 1000), 3)]), Poly(3, [((1000, 1000, 1000), 1)]))
        found = called(self, in_groups, f, ((1, 2), (1, 2), (0, 1)))
        self.assertEqual(shown(found), shown(Quotient(Poly(1, [((2000,), 2), ((0,), 3)]), Poly(1, [((1000,), 1)]))))
        self.check(Quotient(Poly(2, [((40, 0), 2), ((0, 20), 3)]), Poly(2, [((20, 10), 1)])), ((1,), (2,)), source)


class BaseLetters(Case):
    def wholly(self, rows, letters):
        """Whether all exponents are sums of integer multiples of those of some letters."""
        chosen = [rows[j] for j in letters]
        if not chosen:
            return not any([any(row) for row in rows])
        return basis_of(chosen) == basis_of(rows)

    def test_plain(self):
        rows = ((1, 0), (0, 2), (1, 1), (0, 0))
        self.assertEqual(shown(called(self, base_sets, rows)), shown(((0, 1), (0, 2), (1, 2))))
        self.assertEqual(shown(base_sets(rows, True)), shown(((0, 2),)))
        self.assertEqual(shown(base_sets(rows, whole=True)), shown(((0, 2),)))
        self.assertEqual(shown(base_sets(rows, whole=False)), shown(base_sets(rows)))
        self.assertEqual(shown(base_sets([[0, 0]])), shown(((),)))
        self.assertEqual(shown(base_sets([[0], [0]], True)), shown(((),)))
        self.assertEqual(shown(base_sets([[2], [3]], True)), shown(()))

    def test_random_sets(self):
        source = random.Random(631)
        for _ in range(120):
            rows = some_letters(source, 6, 4)
            rank = rank_of(rows)
            sets = [letters for letters in itertools.combinations(range(len(rows)), rank)
                    if rank == 0 or rank_of([rows[j] for j in letters]) == rank]
            self.assertEqual(shown(called(self, base_sets, rows)), shown(tuple(sets)))
            self.assertEqual(shown(base_sets(rows, True)), shown(tuple([letters for letters in sets
                                                                        if self.wholly(rows, letters)])))

    def test_ten_letters(self):
        source = random.Random(632)
        rows = tuple([tuple([source.randint(-9, 9) for _ in range(5)]) for _ in range(10)])
        due = [letters for letters in itertools.combinations(range(10),
                                                             5) if determinant([rows[j] for j in letters]) != 0]
        self.assertEqual(base_sets(rows), tuple(due))
        self.assertEqual(base_sets(((1, 1),) * 10), tuple([(j,) for j in range(10)]))

    def test_bars(self):
        source = random.Random(633)
        met = [0, 0]
        for _ in range(200):
            rows = some_letters(source, 6, 4)
            letters = [j for j in range(len(rows)) if source.random() < 0.5]
            found = called(self, bar_of, rows, letters)
            self.assertEqual(shown(bar_of([list(row) for row in rows], tuple(letters))), shown(found))
            free = not letters or rank_of([rows[j] for j in letters]) == len(letters)
            met[free] += 1
            if free:
                self.assertIsNone(found)
            else:
                self.whole_rows((found,), 1, len(rows))
                self.assertTrue(any(found) and is_group(rows, found))
                self.assertTrue(all([found[j] == 0 for j in range(len(rows)) if j not in letters]))
        self.assertGreater(min(met), 30)

    def test_by_base(self):
        source = random.Random(634)
        for _ in range(150):
            rows = some_letters(source, 6, 4)
            letters = source.choice(base_sets(rows))
            found = called(self, by_base, rows, letters)
            self.assertEqual(shown(by_base([list(row) for row in rows], list(letters))), shown(found))
            self.assertEqual(len(found), len(rows))
            for row, powers in zip(rows, found):
                self.assertIsInstance(powers, tuple)
                self.assertEqual(len(powers), len(letters))
                self.assertTrue(all([is_lowest(item) for item in powers]))
                total = [sum([fraction(item) * rows[j][at] for item,
                              j in zip(powers, letters)]) for at in range(len(row))]
                self.assertEqual(total, list(row))
        self.assertEqual(shown(by_base([[0], [0]], [])), shown(((), ())))

    def test_wrong_letters(self):
        rows = ((1, 0), (0, 1), (1, 1), (0, 0))
        wrong = [None, 5, "01", {}, {0: 1}, [1, 0], [0, 0], [0, 4], [-1, 0], (0, 1, 1), [2, 1, 3], 0, [[0], [1]],
                 [None]]
        wrong += [[0, item] for item in NO_INTEGERS]
        for letters in wrong:
            raised(self, BadNumber, ("letters", letters), bar_of, rows, letters)
            raised(self, BadNumber, ("letters", letters), by_base, rows, letters)
        for letters in ([], [0], (0, 1, 2), [0, 3], (3,), [0, 1, 2, 3]):
            raised(self, BadNumber, ("letters", letters), by_base, rows, letters)
        raised(self, BadNumber, ("letters", [0]), by_base, [[0]], [0])


class Within(Case):
    def brute(self, rows, most):
        found = []
        for powers in itertools.product(range(-most, most + 1), repeat=len(rows)):
            first = [item for item in powers if item][:1]
            if first and first[0] > 0 and is_group(rows, powers):
                found.append(powers)
        return tuple(found)

    def test_plain(self):
        self.assertEqual(shown(called(self, groups_within, [[1], [2], [3]], 2)),
                         shown(((1, -2, 1), (1, 1, -1), (2, -1, 0), (2, 2, -2))))
        self.assertEqual(groups_within([[0], [0]], 1), ((0, 1), (1, -1), (1, 0), (1, 1)))
        self.assertEqual(shown(groups_within([[1, 0], [0, 1]], 6)), shown(()))
        self.assertEqual(shown(groups_within([[1], [1]], 0)), shown(()))
        self.assertEqual(shown(groups_within([[0]], 0)), shown(()))

    def test_random(self):
        source = random.Random(641)
        for _ in range(200):
            rows = some_letters(source, 5, 3)
            most = source.randint(0, {1: 6, 2: 6, 3: 6, 4: 3, 5: 2}[len(rows)])
            due = self.brute(rows, most)
            if len(due) > 2000:
                raised(self, TooMany, ("groups", 2001, 2000), groups_within, rows, most)
            else:
                self.assertEqual(shown(called(self, groups_within, rows, most)), shown(due))

    def test_six_letters(self):
        source = random.Random(642)
        for most in range(3):
            rows = tuple([tuple([source.randint(-1, 1) for _ in range(2)]) for _ in range(6)])
            self.assertEqual(shown(groups_within(rows, most)), shown(self.brute(rows, most)))
        # Many begun rows, only a few of which end well.
        rows = ((1,), (10,), (100,), (1000,), (10000,), (100000,))
        self.assertEqual(groups_within(rows, 6), ())
        self.assertEqual(groups_within(rows[::-1], 6), ())
        self.assertEqual(groups_within(((17,),) + ((1000,),) * 4 + ((18,),), 0), ())

    def test_two_thousand(self):
        # In two letters without unit there are ((2 * most + 1) ** 2 - 1) / 2 groups.
        self.assertEqual(len(groups_within([[0], [0]], 31)), 1984)
        raised(self, TooMany, ("groups", 2001, 2000), groups_within, [[0], [0]], 32)
        self.assertEqual(len(groups_within([[0]], 2000)), 2000)
        raised(self, TooMany, ("groups", 2001, 2000), groups_within, [[0]], 2001)
        self.assertEqual(len(groups_within([[0], [5]], 2000)), 2000)
        raised(self, TooMany, ("groups", 2001, 2000), groups_within, [[0]] * 6, 6)
        raised(self, TooMany, ("groups", 2001, 2000), groups_within, [[1]] * 6, 6)

    def test_wrong_most(self):
        for most in NO_INTEGERS + (-1, -10 ** 30):
            raised(self, BadNumber, ("most", most), groups_within, [[1], [1]], most)
            raised(self, BadNumber, ("most", most), groups_within, [[0]] * 6, most)


class Wrong(Case):
    def test_exponents_go_ahead(self):
        for A in WRONG_EXPONENTS:
            raised(self, BadMatrix, ("exponents",), groups_of, A)
            for more in ((), (True,)):
                raised(self, BadMatrix, ("exponents",), base_sets, A, *more)
            for letters in ([0], [0, 0], None):
                raised(self, BadMatrix, ("exponents",), bar_of, A, letters)
                raised(self, BadMatrix, ("exponents",), by_base, A, letters)
            for most in (1, -1, None):
                raised(self, BadMatrix, ("exponents",), groups_within, A, most)


if __name__ == "__main__":
    unittest.main()
