"""Point [9]: equations in integers and in ratios."""

import random
import unittest
from fractions import Fraction

from allscales.errors import BadMatrix
from allscales.matrices import Answer, Bar, kernel, ratio_answer, whole_answer
from lattices import rank_of, some_matrix
from support import NO_RATIOS, called, fraction, in_other_terms, is_lowest, pair, raised, shown


def sums(weights, rows):
    """The sum of weights times rows, Fractions."""
    return [sum([fraction(weight) * fraction(row[at]) for weight, row in zip(weights, rows)])
            for at in range(len(rows[0]))]


def products(rows, spot):
    """The products of the rows and a spot, Fractions."""
    return [sum([fraction(a) * fraction(b) for a, b in zip(row, spot)]) for row in rows]


def tuples(rows):
    """The matrix as a tuple of tuples."""
    return tuple([tuple(row) for row in rows])


class WholeAnswer(unittest.TestCase):
    def check(self, rows, right):
        found = called(self, whole_answer, rows, right)
        self.assertEqual(shown(whole_answer(tuples(rows), tuple(right))), shown(found))
        if isinstance(found, Answer):
            self.assertEqual(list(found.__dict__), ["spot", "basis"])
            self.assertTrue(isinstance(found.spot, tuple) and all([item.__class__ is int for item in found.spot]))
            self.assertEqual(len(found.spot), len(rows[0]))
            self.assertEqual(products(rows, found.spot), list(right))
            self.assertEqual(shown(found.basis), shown(kernel(rows)))
        else:
            self.assertIsInstance(found, Bar)
            self.assertEqual(list(found.__dict__), ["weights"])
            self.assertTrue(isinstance(found.weights, tuple) and all([is_lowest(item) for item in found.weights]))
            self.assertEqual(len(found.weights), len(rows))
            self.assertTrue(all([item.denominator == 1 for item in sums(found.weights, rows)]))
            self.assertNotEqual(sums(found.weights, [[item] for item in right])[0].denominator, 1)
        return found

    def test_plain(self):
        self.assertIsInstance(self.check([[2]], [4]), Answer)
        self.assertEqual(self.check([[2]], [4]).spot, (2,))
        self.assertEqual(shown(self.check([[2]], [1]).weights), shown(((1, 2),)))
        self.assertIsInstance(self.check([[1, 1], [1, 1]], [1, 2]), Bar)
        self.assertEqual(self.check([[0, 0]], [0]).basis, ((1, 0), (0, 1)))
        self.assertIsInstance(self.check([[0, 0]], [3]), Bar)
        self.assertIsInstance(self.check([[4, 6]], [3]), Bar)
        self.assertIsInstance(self.check([[4, 6]], [2]), Answer)

    def test_planted(self):
        source = random.Random(91)
        for _ in range(200):
            rows = some_matrix(source)
            spot = [source.randint(-10 ** 6, 10 ** 6) for _ in rows[0]]
            right = [int(item) for item in products(rows, spot)]
            self.assertIsInstance(self.check(rows, right), Answer)
            right[source.randrange(len(rows))] += source.choice((1, -1))
            self.check(rows, right)

    def test_planted_parts(self):
        source = random.Random(92)
        kinds = []
        for _ in range(200):
            rows = some_matrix(source, 5, 3)
            many = source.choice((2, 3, 4, 6))
            rows = [[item * source.choice((1, many)) for item in row] for row in rows]
            spot = [Fraction(source.randint(-9, 9), many) for _ in rows[0]]
            right = products(rows, spot)
            if all([item.denominator == 1 for item in right]):
                kinds.append(self.check(rows, [int(item) for item in right]).__class__)
        self.assertTrue(Bar in kinds and Answer in kinds)

    def test_at_random(self):
        source = random.Random(93)
        kinds = []
        for _ in range(300):
            rows = some_matrix(source)
            kinds.append(self.check(rows, [source.randint(-20, 20) for _ in rows]).__class__)
        self.assertTrue(Bar in kinds and Answer in kinds)

    def test_same_by_all_small_answers(self):
        source = random.Random(94)
        for _ in range(200):
            rows = [[source.randint(-3, 3)] for _ in range(source.randint(1, 2))]
            right = [source.randint(-6, 6) for _ in rows]
            there = any([products(rows, [x]) == right for x in range(-6, 7)])
            self.assertEqual(isinstance(self.check(rows, right), Answer), there)

    def test_wrong_right(self):
        for right in ([], [1], [1, 2, 3], 5, None, "12", [True, 1], [1, "2"], [1, (2, 1)], {0: 1, 1: 2}, [1.0, 2]):
            raised(self, BadMatrix, ("right",), whole_answer, [[1, 0, 0], [0, 1, 0]], right)
            raised(self, BadMatrix, ("right",), whole_answer, ((0,), (0,)), right)
        raised(self, BadMatrix, ("rows",), whole_answer, [[(1, 2)]], [True])


class RatioAnswer(unittest.TestCase):
    def check(self, rows, right):
        found = called(self, ratio_answer, rows, right)
        self.assertEqual(shown(ratio_answer(tuples(rows), tuple(right))), shown(found))
        sides = [fraction(item) for item in right]
        if isinstance(found, Answer):
            self.assertEqual(list(found.__dict__), ["spot", "basis"])
            self.assertTrue(isinstance(found.spot, tuple) and all([is_lowest(item) for item in found.spot]))
            self.assertEqual(len(found.spot), len(rows[0]))
            self.assertEqual(products(rows, found.spot), sides)
            self.assertEqual(shown(found.basis), shown(kernel(self.whole(rows))))
        else:
            self.assertIsInstance(found, Bar)
            self.assertEqual(list(found.__dict__), ["weights"])
            self.assertTrue(isinstance(found.weights, tuple) and all([is_lowest(item) for item in found.weights]))
            self.assertEqual(len(found.weights), len(rows))
            self.assertEqual(sums(found.weights, rows), [0] * len(rows[0]))
            self.assertNotEqual(sums(found.weights, [[item] for item in right]), [0])
        wide = [[fraction(item) for item in row] + [side] for row, side in zip(rows, sides)]
        self.assertEqual(isinstance(found, Answer), rank_of(wide) == rank_of([row[:-1] for row in wide]))
        return found

    def whole(self, rows):
        """The rows made integers."""
        result = []
        for row in rows:
            many = 1
            for item in row:
                many *= fraction(item).denominator
            result.append([int(fraction(item) * many) for item in row])
        return result

    def test_plain(self):
        self.assertEqual(shown(self.check([[2]], [1]).spot), shown(((1, 2),)))
        self.assertEqual(shown(self.check([[(1, 3)]], [(2, 4)]).spot), shown(((3, 2),)))
        self.assertIsInstance(self.check([[1, 1], [1, 1]], [1, 2]), Bar)
        self.assertEqual(self.check([[(1, 2), (1, 3)]], [0]).basis, ((2, -3),))
        self.assertIsInstance(self.check([[0, 0]], [(1, 5)]), Bar)
        self.assertEqual(self.check([[0, (0, 7)]], [(0, 2)]).basis, ((1, 0), (0, 1)))

    def test_planted(self):
        source = random.Random(95)
        for _ in range(200):
            rows = [[in_other_terms(source, (item, source.choice((1, 1, 2, 3, 10 ** 6)))) for item in row]
                    for row in some_matrix(source)]
            spot = [pair(Fraction(source.randint(-99, 99), source.randint(1, 12))) for _ in rows[0]]
            right = [in_other_terms(source, pair(item)) for item in products(rows, spot)]
            self.assertIsInstance(self.check(rows, right), Answer)

    def test_at_random_and_contradicting(self):
        source = random.Random(96)
        kinds = []
        for _ in range(200):
            rows = some_matrix(source)
            right = [in_other_terms(source, (source.randint(-9, 9), source.randint(1, 9))) for _ in rows]
            kinds.append(self.check(rows, right).__class__)
            rows.append([3 * item for item in rows[0]])
            near = 3 * fraction(right[0]) + Fraction(source.choice((0, 1)), 7)
            kinds.append(self.check(rows, right + [pair(near)]).__class__)
        self.assertTrue(Bar in kinds and Answer in kinds)

    def test_terms_do_not_matter(self):
        one = ratio_answer([[(2, 4), 3], [1, (5, 10)]], [(6, 3), (1, 7)])
        self.assertEqual(shown(one), shown(ratio_answer([[(1, 2), (6, 2)], [(3, 3), (1, 2)]], (2, (2, 14)))))

    def test_near_the_limits(self):
        source = random.Random(97)
        rows = [[source.randint(-9, 9) for _ in range(30)] for _ in range(60)]
        spot = [pair(Fraction(source.randint(-9, 9), source.randint(1, 9))) for _ in range(30)]
        self.assertEqual(ratio_answer(rows, [pair(item) for item in products(rows, spot)]).spot, tuple(spot))
        self.check(rows, [source.randint(-9, 9) for _ in rows])
        self.check(rows[:20], [source.randint(-9, 9) for _ in range(20)])

    def test_wrong_right_behind_rows(self):
        for item in NO_RATIOS:
            raised(self, BadMatrix, ("right",), ratio_answer, [[1, (1, 2)], [0, 1]], [1, item])
            raised(self, BadMatrix, ("rows",), ratio_answer, [[1, (1, 2)], [0, item]], [1, 2])
            raised(self, BadMatrix, ("rows",), ratio_answer, [[1, (1, 2)], [0, item]], [1, item])
        for right in ([], [1], [1, 2, 3], 5, None, "12", {0: 1, 1: 2}, (1,)):
            raised(self, BadMatrix, ("right",), ratio_answer, [[1, (1, 2)], [0, 1]], right)
        raised(self, BadMatrix, ("rows",), ratio_answer, [[(1, 2)], [1, 2]], [])

    def test_objects_copy_what_they_are_given(self):
        spot, basis, weights = [1, 2], [[3, 4]], [(1, 2)]
        told = (Answer(spot, basis), Bar(weights))
        before = [shown(one) for one in told]
        spot.append(3)
        basis[0][0] = 7
        weights.clear()
        self.assertEqual([shown(one) for one in told], before)


if __name__ == "__main__":
    unittest.main()
