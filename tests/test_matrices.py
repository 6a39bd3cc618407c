"""Points [6] to [8]: Hermite and Smith forms, and lattices."""

import random
import unittest
from math import prod

from allscales.errors import BadMatrix
from allscales.matrices import (Hermite, Smith, alike_lattices, basis_of, hermite, in_lattice, index_of, kernel,
                                ratio_answer, saturated, smith, whole_answer)
from lattices import determinant, determinant_modulo, parts_divisor, rank_of, some_matrix, times, unimodular
from support import called, raised, shown

PRIME = 2 ** 61 - 1
NO_MATRICES = ([], (), [[]], [[], []], [()], [[1, 2], [3]], [[1], [2, 3]], [[1, 2], []], [[True]], [[1, False]],
               [["1"]], ["12", "34"], [[1, None]], [[1.0]], [[1], 2], [1, 2], 5, None, "rows", {0: [1]}, [{0: 1}],
               [[[1]]], [[1], None])


def tuples(rows):
    """The matrix as a tuple of tuples."""
    return tuple([tuple(row) for row in rows])


def pivot(row):
    """The index of the first item that is not 0, None without one."""
    return next((at for at, item in enumerate(row) if item), None)


def is_hermite(rows):
    """Whether a matrix is in Hermite form."""
    steps = [row for row in rows if any(row)]
    if tuples(steps) != tuples(rows[:len(steps)]):
        return False
    pivots = [pivot(row) for row in steps]
    if pivots != sorted(set(pivots)):
        return False
    return all(row[at] > 0 and all(0 <= above[at] < row[at] for above in steps[:place])
               for place, (row, at) in enumerate(zip(steps, pivots)))


def is_smith(rows):
    """Whether a matrix is in Smith form."""
    items = [row[at] for at, row in enumerate(rows) if at < len(row)]
    plain = all(item == 0 or at == place for place, row in enumerate(rows) for at, item in enumerate(row))
    return plain and all(item >= 0 for item in items) and all(
        after == 0 if item == 0 else after % item == 0 for item, after in zip(items, items[1:]))


class Forms(unittest.TestCase):
    def check_hermite(self, rows):
        form = called(self, hermite, rows)
        self.assertIsInstance(form, Hermite)
        self.assertEqual(list(form.__dict__), ["left", "middle"])
        self.assertEqual(shown(times(form.left, rows)), shown(form.middle))
        self.assertEqual((len(form.left), len(form.left[0])), (len(rows), len(rows)))
        self.assertIn(determinant(form.left), (1, -1))
        self.assertTrue(is_hermite(form.middle), rows)
        return form

    def check_smith(self, rows):
        form = called(self, smith, rows)
        self.assertIsInstance(form, Smith)
        self.assertEqual(list(form.__dict__), ["left", "middle", "right"])
        self.assertEqual(shown(times(times(form.left, rows), form.right)), shown(form.middle))
        self.assertIn(determinant(form.left), (1, -1))
        self.assertIn(determinant(form.right), (1, -1))
        self.assertTrue(is_smith(form.middle), rows)
        return form

    def test_hermite_plain(self):
        for rows, middle in (
                ([[2, 3], [4, 5]], ((2, 0), (0, 1))),
                ([[0, 0], [0, -3]], ((0, 3), (0, 0))),
                ([[4], [6]], ((2,), (0,))),
                ([[3, 7], [0, 2]], ((3, 1), (0, 2))),
                ([[1, -1, 0], [0, 5, 2]], ((1, 4, 2), (0, 5, 2))),
                ([[0]], ((0,),))):
            self.assertEqual(shown(self.check_hermite(rows).middle), shown(middle))

    def test_hermite_at_random(self):
        source = random.Random(61)
        for _ in range(300):
            rows = some_matrix(source)
            form = self.check_hermite(rows)
            other = [list(row) for row in times(unimodular(source, len(rows)), rows)]
            self.assertEqual(self.check_hermite(other).middle, form.middle)
            self.assertEqual(shown(called(self, basis_of, rows)), shown(tuple([row for row in form.middle if any(row)])))
            self.assertEqual(basis_of(other), basis_of(rows))
            self.assertEqual(shown(hermite(tuples(rows))), shown(form))
            self.assertEqual(basis_of([tuple(row) for row in rows]), basis_of(rows))

    def test_smith_plain(self):
        for rows, middle in (
                ([[2, 0], [0, 3]], ((1, 0), (0, 6))),
                ([[4, 0], [0, 6]], ((2, 0), (0, 12))),
                ([[0, 0, 0], [0, 0, -5]], ((5, 0, 0), (0, 0, 0))),
                ([[2, 4, 4], [-6, 6, 12], [10, -4, -16]], ((2, 0, 0), (0, 6, 0), (0, 0, 12))),
                ([[0], [0]], ((0,), (0,))),
                ([[-7]], ((7,),))):
            self.assertEqual(shown(self.check_smith(rows).middle), shown(middle))

    def test_smith_at_random(self):
        source = random.Random(62)
        for _ in range(200):
            rows = some_matrix(source)
            form = self.check_smith(rows)
            self.assertEqual(shown(smith(tuples(rows))), shown(form))
            turned = self.check_smith([list(row) for row in zip(*rows)])
            self.assertEqual(turned.middle, tuple(zip(*form.middle)))

    def test_smith_by_divisors_of_parts(self):
        source = random.Random(63)
        for _ in range(60):
            rows = some_matrix(source, 4, 4)
            middle = smith(rows).middle
            for many in range(1, min(len(rows), len(rows[0])) + 1):
                self.assertEqual(prod([middle[at][at] for at in range(many)]), parts_divisor(rows, many))

    def test_smith_of_a_told_diagonal(self):
        source = random.Random(64)
        for _ in range(150):
            many, width = source.randint(1, 5), source.randint(1, 5)
            items, last = [], source.choice((1, 1, 2, 3, 10 ** 5))
            for _ in range(min(many, width)):
                items.append(last)
                last *= source.choice((0, 1, 1, 2, 3, 6, 10 ** 4 + 7))
            middle = tuples([[items[at] if at == place else 0 for at in range(width)] for place in range(many)])
            rows = times(times(unimodular(source, many), middle), unimodular(source, width))
            self.assertEqual(shown(self.check_smith(rows).middle), shown(middle))

    def test_large(self):
        source = random.Random(65)
        for many, width, digits in ((60, 30, 30), (59, 30, 2), (30, 30, 10), (5, 30, 30), (60, 1, 30)):
            rows = [[source.randint(-10 ** digits, 10 ** digits) for _ in range(width)] for _ in range(many)]
            form = hermite(rows)
            self.assertEqual(times(form.left, rows), form.middle)
            self.assertTrue(is_hermite(form.middle))
            self.assertIn(determinant_modulo(form.left, PRIME), (1, PRIME - 1))
            self.assertEqual(basis_of(rows[::-1]), tuple([row for row in form.middle if any(row)]))
            triple = smith(rows)
            self.assertEqual(times(times(triple.left, rows), triple.right), triple.middle)
            self.assertTrue(is_smith(triple.middle))
            self.assertIn(determinant_modulo(triple.left, PRIME), (1, PRIME - 1))
            self.assertIn(determinant_modulo(triple.right, PRIME), (1, PRIME - 1))
            self.assertEqual(len(kernel(rows)), width - len(basis_of(rows)))
            self.assertIsNotNone(in_lattice(rows, times([[1] * many], rows)[0]))


class Lattices(unittest.TestCase):
    def test_basis_plain(self):
        self.assertEqual(basis_of([[0, 0], [0, 0]]), ())
        self.assertEqual(shown(called(self, basis_of, [[2, 4], [1, 2], [0, 6]])), shown(((1, 2), (0, 6))))
        self.assertEqual(basis_of([[6, 0], [4, 0], [0, -3]]), ((2, 0), (0, 3)))

    def test_kernel(self):
        self.assertEqual(shown(called(self, kernel, [[1, 2]])), shown(((2, -1),)))
        self.assertEqual(kernel([[0, 0, 0]]), ((1, 0, 0), (0, 1, 0), (0, 0, 1)))
        self.assertEqual(kernel([[1, 0], [0, 5]]), ())
        self.assertEqual(kernel([[2, 4, 6]]), ((1, 1, -1), (0, 3, -2)))
        source = random.Random(71)
        for _ in range(200):
            rows = some_matrix(source)
            basis = called(self, kernel, rows)
            self.assertEqual(len(basis), len(rows[0]) - rank_of(rows))
            self.assertEqual(kernel(tuples(rows)), basis)
            if basis:
                self.assertFalse(any([any(row) for row in times(rows, tuple(zip(*basis)))]))
                self.assertTrue(is_hermite(basis) and all([any(row) for row in basis]))
                self.assertEqual(parts_divisor(basis, len(basis)), 1)

    def test_saturated(self):
        self.assertEqual(shown(called(self, saturated, [[2, 4]])), shown(((1, 2),)))
        self.assertEqual(saturated([[2, 0], [0, 3]]), ((1, 0), (0, 1)))
        self.assertEqual(saturated([[0, 0]]), ())
        self.assertEqual(saturated([[1, 1], [1, -1]]), ((1, 0), (0, 1)))
        source = random.Random(72)
        for _ in range(200):
            rows = some_matrix(source)
            basis = called(self, saturated, rows)
            self.assertEqual(len(basis), rank_of(rows))
            self.assertEqual(saturated(tuples(rows)), basis)
            for row in rows:
                if any(row):
                    self.assertIsNotNone(in_lattice(basis, row))
            if basis:
                self.assertTrue(is_hermite(basis))
                self.assertEqual(parts_divisor(basis, len(basis)), 1)
                self.assertEqual(saturated(basis), basis)

    def test_index(self):
        self.assertEqual(called(self, index_of, [[0, 0]]), 1)
        self.assertEqual(called(self, index_of, [[2, 0], [0, 3]]), 6)
        self.assertEqual(index_of([[1, 1], [1, -1]]), 2)
        self.assertEqual(index_of(((4, 6), (0, 0))), 2)
        source = random.Random(73)
        for _ in range(200):
            rows = some_matrix(source)
            index = called(self, index_of, rows)
            self.assertIs(index.__class__, int)
            self.assertEqual(index, prod([row[at] for at, row in enumerate(smith(rows).middle) if any(row)]))

    def test_told_index(self):
        source = random.Random(74)
        for _ in range(100):
            width = source.randint(1, 5)
            many = source.randint(1, width)
            base = unimodular(source, width)[:many]
            items = [source.choice((1, 2, 3, 7, 10 ** 12)) for _ in range(many)]
            rows = [[item * number for number in row] for item, row in zip(items, base)]
            rows = [list(row) for row in times(unimodular(source, many), rows)] + [[0] * width]
            self.assertEqual(index_of(rows), prod(items))
            self.assertEqual(saturated(rows), basis_of(base))

    def test_in_lattice(self):
        self.assertIsNone(called(self, in_lattice, [[2, 0], [0, 3]], [1, 0]))
        self.assertEqual(called(self, in_lattice, [[2, 0], [0, 3]], (4, -3)), (2, -1))
        self.assertEqual(in_lattice([[0, 0]], [0, 1]), None)
        self.assertEqual(times([in_lattice([[0, 0]], [0, 0])], [[0, 0]]), ((0, 0),))
        source = random.Random(75)
        for _ in range(300):
            rows = some_matrix(source)
            width = len(rows[0])
            row = list(times([[source.randint(-5, 5) for _ in rows]], rows)[0])
            many = called(self, in_lattice, rows, row)
            self.assertEqual(shown(many), shown(tuple(many)))
            self.assertEqual((len(many), times([many], rows)[0]), (len(rows), tuple(row)))
            self.assertEqual(in_lattice(tuples(rows), tuple(row)), many)
            row[source.randrange(width)] += source.choice((1, -1))
            many = in_lattice(rows, row)
            if basis_of(rows + [row]) == basis_of(rows):
                self.assertEqual(times([many], rows)[0], tuple(row))
            else:
                self.assertIsNone(many)

    def test_alike(self):
        source = random.Random(76)
        for _ in range(200):
            rows = some_matrix(source)
            other = [list(row) for row in times(unimodular(source, len(rows)), rows)]
            other = other + [[sum(column) for column in zip(*rows)]] if source.random() < 0.5 else tuples(other)
            self.assertIs(called(self, alike_lattices, rows, other), True)
            self.assertIs(alike_lattices(other, rows), True)
            basis = [list(row) for row in basis_of(rows)]
            if basis:
                place = source.randrange(len(basis))
                basis[place] = [2 * item for item in basis[place]]
                self.assertIs(alike_lattices(rows, basis), False)
                self.assertIs(alike_lattices(basis, rows), False)
            self.assertIs(alike_lattices(rows, [row + [0] for row in rows]), False)
        self.assertIs(alike_lattices([[0, 0]], [[0, 0], [0, 0]]), True)
        self.assertIs(alike_lattices([[0, 0]], [[0]]), False)

    def test_objects_copy_what_they_are_given(self):
        left, middle, right = [[1]], [[2]], [[1]]
        forms = (Hermite(left, middle), Smith(left, middle, right))
        before = [shown(form) for form in forms]
        for rows in (left, middle, right):
            rows[0][0] = 9
            rows.append([3])
        self.assertEqual([shown(form) for form in forms], before)


class Wrong(unittest.TestCase):
    def test_no_matrix(self):
        for rows in NO_MATRICES:
            for function in (hermite, smith, basis_of, kernel, saturated, index_of):
                raised(self, BadMatrix, ("rows",), function, rows)
            for other in ([1], [[1]], None, "1", []):
                for function in (in_lattice, whole_answer, ratio_answer):
                    raised(self, BadMatrix, ("rows",), function, rows, other)
            raised(self, BadMatrix, ("rows",), alike_lattices, rows, [[1]])
            raised(self, BadMatrix, ("rows",), alike_lattices, [[1, 2]], rows)
            raised(self, BadMatrix, ("rows",), alike_lattices, rows, rows)

    def test_ratios_are_no_integers(self):
        for function in (hermite, smith, basis_of, kernel, saturated, index_of):
            raised(self, BadMatrix, ("rows",), function, [[(1, 2)]])
            raised(self, BadMatrix, ("rows",), function, [[(2, 1), 1]])

    def test_wrong_row(self):
        for row in ([], [1], [1, 2, 3], (1,), 5, None, "12", [True, 1], [1, "2"], [1, (2, 1)], {0: 1, 1: 2}, [1.0, 2]):
            raised(self, BadMatrix, ("row",), in_lattice, [[1, 0], [0, 1]], row)
            raised(self, BadMatrix, ("row",), in_lattice, ((0, 0),), row)


if __name__ == "__main__":
    unittest.main()
