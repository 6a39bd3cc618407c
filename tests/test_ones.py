"""Points [76] to [78], [80] and [81]: letters called 1, and put back."""

import random
import unittest

from allscales.errors import BadMatrix, BadNumber, ByZero
from allscales.matrices import kernel
from allscales.ones import Barred, Parting, Tied, alike_units, called_one, put_back, together
from allscales.polys import Poly
from allscales.quotients import Quotient, is_nothing, letter_of, number_of, same
from allscales.worth import covariant
from lattices import rank_of, unimodular
from support import NO_INTEGERS, called, fraction, is_lowest, raised, shown
from test_hanging import dot, some_letters
from test_worth import some_quotient

WRONG_EXPONENTS = [None, 5, "ab", [], (), [()], [(), ()], [(1,), (1, 2)], [(1,), 2], [1, 2], {}, [(1,), None],
                   [[1], [2]], ((1,), [2]), [(1,), "a"]] + [[(1, item)] for item in NO_INTEGERS]
WRONG_RESULTS = [None, 5, "a", (), (1,), (1, 2, 3), [1, 2], {}] + [(1, item) for item in NO_INTEGERS]


def wrong_letters(many):
    """Values that are no unlike indices below many."""
    wrong = [None, 0, "0", {}, {0: 1}, [0, 0], (0, many), [many], [-1], (many - 1, many - 1)]
    return wrong + [[item] for item in NO_INTEGERS]


def columns(rows):
    return [list(column) for column in zip(*rows)]


def units_of(rows, powers):
    """The exponents of a product of powers of letters."""
    return tuple([dot(powers, column) for column in zip(*rows)])


class Case(unittest.TestCase):
    def group(self, rows, powers):
        """Fails unless powers are a group of the letters."""
        self.assertIsInstance(powers, tuple)
        self.assertEqual(len(powers), len(rows))
        self.assertTrue(all([item.__class__ is int for item in powers]))
        self.assertFalse(any(units_of(rows, powers)))


class Together(Case):
    def check(self, rows, letters):
        found = called(self, together, rows, letters)
        free = not letters or rank_of([rows[j] for j in letters]) == len(letters)
        if free:
            self.assertIsNone(found)
            return None
        self.assertIs(found.__class__, Tied)
        self.assertEqual(list(found.__dict__), ["group"])
        self.group(rows, found.group)
        self.assertTrue(any(found.group))
        self.assertEqual([item for j, item in enumerate(found.group) if j not in letters and item != 0], [])
        return found

    def test_examples(self):
        # The speed of light, the constant of gravity and that of Planck, in m, s and kg.
        rows = ((1, -1, 0), (3, -2, -1), (2, -1, 1), (1, 0, 0))
        self.assertIsNone(self.check(rows, [0, 1, 2]))
        self.assertIsNone(self.check(rows, (2, 0)))
        self.assertIsInstance(self.check(rows, [3, 2, 1, 0]), Tied)
        self.assertIsNone(self.check(rows, []))
        self.assertIsNone(self.check(rows, ()))
        self.assertEqual(self.check(((1,), (2,), (0,)), [2]).group.count(0), 2)
        self.assertIsNone(self.check(((1,), (2,)), [1]))
        self.assertIn(self.check(((1,), (2,)), [1, 0]).group, ((2, -1), (-2, 1)))

    def test_random(self):
        source = random.Random(1)
        seen = {}
        for _ in range(400):
            rows = some_letters(source)
            letters = source.sample(range(len(rows)), source.randint(0, len(rows)))
            for given in (rows, tuple(rows)):
                found = self.check(given, source.choice((letters, tuple(letters))))
            seen[found.__class__] = seen.get(found.__class__, 0) + 1
        self.assertGreater(min(seen.values()), 60)

    def test_wrong_values(self):
        for wrong in WRONG_EXPONENTS:
            raised(self, BadMatrix, ("exponents",), together, wrong, [0])
            raised(self, BadMatrix, ("exponents",), together, wrong, None)
        for wrong in wrong_letters(2):
            raised(self, BadNumber, ("letters", wrong), together, ((1,), (2,)), wrong)


class CalledOne(Case):
    def test_examples(self):
        x, y = letter_of(2, 0), letter_of(2, 1)
        self.assertEqual(called(self, called_one, x * x + y, [0]), y + number_of(2, 1))
        self.assertEqual(called_one(x.over(y), (0, 1)), number_of(2, 1))
        self.assertEqual(called_one(x.over(y), []), x.over(y))
        self.assertEqual(called_one((x + y).over(x - y), [1]).size, 2)
        self.assertEqual(called_one((x - number_of(2, 1)).over(y), [0]), number_of(2, 0))
        self.assertEqual(called_one(number_of(0, 5), []), number_of(0, 5))

    def test_values(self):
        source = random.Random(2)
        for _ in range(150):
            size = source.randint(1, 4)
            f = some_quotient(source, size)
            letters = source.sample(range(size), source.randint(0, size))
            point = [source.randint(1, 9) for _ in range(size)]
            at = [1 if j in letters else item for j, item in enumerate(point)]
            try:
                g = called(self, called_one, f, letters)
            except ByZero as error:
                self.assertEqual(error.place, 0)
                self.assertEqual(f.bottom.at(at), (0, 1))
                continue
            self.assertEqual(g.size, size)
            if g.bottom.at(point) != (0, 1):
                self.assertEqual(g.at(point), f.at(at))
                self.assertEqual(g.at(point), g.at(at))

    def test_errors(self):
        x, y = letter_of(2, 0), letter_of(2, 1)
        f = number_of(2, 1).over(x - y)
        raised(self, ByZero, (0,), called_one, f, [0, 1])
        raised(self, ByZero, (0,), called_one, y.over(x - number_of(2, 1)), (0,))
        self.assertEqual(called_one(f, [0]), number_of(2, 1).over(number_of(2, 1) - y))
        for wrong in wrong_letters(2):
            raised(self, BadNumber, ("letters", wrong), called_one, f, wrong)
        raised(self, BadNumber, ("letters", [0, 0, 1]), called_one, f, [0, 0, 1])
        raised(self, BadNumber, ("letters", [0]), called_one, number_of(0, 5), [0])


class AlikeUnits(Case):
    def check(self, one, other):
        found = called(self, alike_units, one, other)
        groups = [kernel(columns(rows)) for rows in (one, other)]
        if groups[0] == groups[1]:
            self.assertIsNone(found)
            return None
        self.assertIs(found.__class__, Parting)
        self.assertEqual(list(found.__dict__), ["group", "which"])
        self.assertIn(found.which, (0, 1))
        self.assertIs(found.which.__class__, int)
        own, others = (one, other) if found.which == 0 else (other, one)
        self.group(own, found.group)
        self.assertTrue(any(units_of(others, found.group)))
        return found.which

    def test_examples(self):
        speed = ((1, -1), (1, 0), (0, 1))
        self.assertIsNone(self.check(speed, speed))
        # With a base unit more that no letter has, and with times measured by the light.
        self.assertIsNone(self.check(speed, [(1, 0, -1), (1, 0, 0), (0, 0, 1)]))
        self.assertEqual(self.check(speed, ((0,), (1,), (1,))), 1)
        self.assertEqual(self.check(((0,), (1,), (1,)), speed), 0)
        self.assertIn(self.check(((1,), (2,)), ((2,), (1,))), (0, 1))
        self.assertIsNone(self.check(((2,), (4,)), ((1, 3), (2, 6))))
        self.assertIsNone(self.check(((0,),), ((0, 0),)))
        self.assertEqual(self.check(((0,),), ((0, 1),)), 0)

    def test_random(self):
        source = random.Random(3)
        seen = {}
        for _ in range(400):
            one = some_letters(source)
            kind = source.random()
            if kind < 0.4:
                # The columns are mixed, multiplied, and told twice.
                mixed = unimodular(source, len(one[0]))
                other = columns([units_of(columns(one), row) for row in mixed])
                other = [tuple([2 * row[0]] + row + row[:1]) for row in other]
            elif kind < 0.7:
                other = [row[:-1] + (0,) for row in one]
            else:
                width = source.randint(1, 4)
                other = [tuple([source.randint(-2, 2) for _ in range(width)]) for _ in one]
            found = self.check(one, other)
            if kind < 0.4:
                self.assertIsNone(found)
            seen[found] = seen.get(found, 0) + 1
        self.assertEqual(sorted(seen, key=str), [0, 1, None])
        self.assertGreater(min(seen.values()), 15)

    def test_wrong_values(self):
        right = ((1,), (2,))
        for wrong in WRONG_EXPONENTS:
            raised(self, BadMatrix, ("exponents",), alike_units, wrong, right)
            raised(self, BadMatrix, ("exponents",), alike_units, right, wrong)
        raised(self, BadMatrix, ("exponents",), alike_units, right, ((1,),))
        raised(self, BadMatrix, ("exponents",), alike_units, ((1,), (2,), (3,)), right)


class PutBack(Case):
    def lacks(self, f, rows, result):
        """The triples (part, term, exponents that the term lacks)."""
        due = units_of(rows, f.bottom.terms[0][0])
        found = []
        for part, poly, more in (("bottom", f.bottom, [0] * len(result)), ("top", f.top, result)):
            for term, (powers, _) in enumerate(poly.terms):
                own = units_of(rows, powers)
                found.append((part, term, [a + b - c for a, b, c in zip(due, more, own)]))
        return found

    def barred(self, rows, letters, found, lack):
        """Whether the weights show that nothing makes up for the lack."""
        self.assertIsInstance(found.weights, tuple)
        self.assertEqual(len(found.weights), len(lack))
        self.assertTrue(all([is_lowest(item) for item in found.weights]))
        weights = [fraction(item) for item in found.weights]
        for j in letters:
            self.assertEqual((dot(weights, rows[j]) + 0) % 1, 0)
        return (dot(weights, lack) + 0) % 1 != 0

    def check(self, f, rows, result, letters):
        found = called(self, put_back, f, rows, result, letters)
        if letters and rank_of([rows[j] for j in letters]) < len(letters):
            self.assertIs(found.__class__, Tied)
            self.group(rows, found.group)
            self.assertEqual([item for j, item in enumerate(found.group) if j not in letters and item != 0], [])
            self.assertTrue(any(found.group))
        elif isinstance(found, Barred):
            self.assertEqual(list(found.__dict__), ["part", "term", "weights"])
            lack = [lack for part, term, lack in self.lacks(f, rows, result) if (part, term) == (found.part, found.term)]
            self.assertTrue(self.barred(rows, letters, found, lack[0]))
        else:
            self.assertIs(found.__class__, Quotient)
            self.assertEqual(found.size, f.size)
            self.assertTrue(covariant(found, rows, tuple(result)))
            self.assertEqual(called_one(found, letters), f)
            self.term_for_term(f, found, letters)
        return found

    def term_for_term(self, f, found, letters):
        """Each term has the other letters as before, and there are no more terms."""
        self.assertEqual([len(found.top.terms), len(found.bottom.terms)], [len(f.top.terms), len(f.bottom.terms)])

    def test_fall(self):
        # h is t * t / 2 with g called 1.
        rows = ((0, 1), (1, -2), (1, 0))
        t, g, h = [letter_of(3, j) for j in range(3)]
        half = number_of(3, (1, 2))
        self.assertEqual(self.check(t * t * half, rows, (1, 0), [1]), g * t * t * half)
        self.assertEqual(self.check(h.over(t), rows, (1, -1), [1]), h.over(t))
        self.assertEqual(self.check(h.over(t * t) * half, rows, (0, 0), [1]), h.over(t * t * g) * half)
        found = self.check(h.over(t) + t, rows, (1, -1), [1])
        self.assertEqual(found, h.over(t) + t * g)

    def test_light_and_gravity(self):
        rows = ((1, -1, 0), (3, -2, -1), (0, 0, 1), (1, 0, 0))
        c, gravity, mass, radius = [letter_of(4, j) for j in range(4)]
        # A radius of 2 * mass, and what is 1 less 2 * mass over a radius.
        two = number_of(4, 2)
        self.assertEqual(self.check(two * mass, rows, (1, 0, 0), [0, 1]), two * gravity * mass.over(c * c))
        found = self.check(number_of(4, 1) - two * mass.over(radius), rows, (0, 0, 0), (1, 0))
        self.assertEqual(found, (radius - two * gravity * mass.over(c * c)).over(radius))
        self.assertTrue(same(found, number_of(4, 1) - two * gravity * mass.over(c * c * radius)))

    def test_barred_terms(self):
        rows = ((2, 0), (0, 1), (1, 0))
        one, time, way = [letter_of(3, j) for j in range(3)]
        f = (way + time).over(way * way + number_of(3, 1))
        self.assertEqual(self.part_of(f, rows, (0, 0), [0]), ("top", 0))
        self.assertEqual(self.part_of(f.over(f) * f, rows, (0, 0), [0])[0], "bottom")
        f = number_of(3, 1).over(number_of(3, 1) + way)
        self.assertEqual(self.part_of(f, rows, (0, 0), [0]), ("bottom", 1))
        # Of a top and a bottom that are both wrong the bottom is told.
        f = (way + time * way).over(way * way + number_of(3, 1) + time)
        self.assertEqual(self.part_of(f, rows, (0, 0), [0]), ("bottom", 2))
        self.assertEqual(self.part_of(way, rows, (0, 0), [0]), ("top", 0))
        self.assertEqual(self.part_of(way, rows, (2, 0), []), ("top", 0))
        self.assertEqual(self.part_of(way + way * way, rows, (1, 0), []), ("top", 1))

    def part_of(self, f, rows, result, letters):
        found = self.check(f, rows, result, letters)
        self.assertIs(found.__class__, Barred)
        return (found.part, found.term)

    def test_nothing_and_no_letters(self):
        rows = ((1,), (2,))
        self.assertTrue(is_nothing(self.check(number_of(2, 0), rows, (5,), [0])))
        self.assertEqual(self.check(letter_of(2, 0), rows, (1,), []), letter_of(2, 0))
        self.assertIsInstance(self.check(letter_of(2, 0), rows, (1,), [0, 1]), Tied)
        self.assertEqual(self.check(number_of(2, 7), rows, (-3,), [0]), number_of(2, 7) * letter_of(2, 0).power(-3))

    def test_the_first_bottom_term_stays(self):
        rows = ((1,), (1,), (1,))
        x, y = letter_of(3, 0), letter_of(3, 1)
        found = self.check(number_of(3, 1).over(number_of(3, 1) + x * x), rows, (0,), [2])
        self.assertEqual(found.bottom.terms[0][0], (0, 0, 2))
        self.assertEqual(found.top.terms[0][0], (0, 0, 2))
        self.assertIsInstance(self.check(y.over(x * x + y), rows, (4,), [2]), Quotient)

    def test_random(self):
        source = random.Random(4)
        seen = {}
        for _ in range(500):
            rows = some_letters(source, most=5, wide=3)
            size = len(rows)
            letters = source.sample(range(size), source.randint(0, min(size, 3)))
            free = [j for j in range(size) if j not in letters]
            f, result = self.some_question(source, rows, letters, free)
            found = self.check(f, rows, result, source.choice((letters, tuple(letters))))
            kind = (found.__class__, getattr(found, "part", None))
            seen[kind] = seen.get(kind, 0) + 1
            if isinstance(found, Barred):
                self.first_barred(f, rows, result, letters, found)
        self.assertEqual(len(seen), 4)
        self.assertGreater(min(seen.values()), 25)

    def some_question(self, source, rows, letters, free):
        """A quotient without the letters, and exponents of a value: many of them such that it can be put back."""
        def some_terms(many):
            powers = [tuple([source.randint(0, 3) if j in free else 0 for j in range(len(rows))]) for _ in range(many)]
            return [(power, source.choice((1, -2, 5))) for power in powers]
        size = len(rows)
        bottom = some_terms(source.choice((1, 1, 2)))
        top = some_terms(source.choice((1, 1, 2)))
        if source.random() < 0.5:
            # Terms whose exponents are apart by those of the letters alone.
            bottom, top = bottom[:1], top[:1]
        f = Quotient(Poly(size, top), Poly(size, dict(bottom).items()))
        lack = [a - b for a, b in zip(units_of(rows, f.top.terms[0][0]), units_of(rows, f.bottom.terms[0][0]))] \
            if f.top.terms else [0] * len(rows[0])
        for j in letters:
            many = source.randint(-2, 2)
            lack = [a + many * b for a, b in zip(lack, rows[j])]
        if source.random() < 0.2:
            lack[0] += 1
        return f, tuple(lack)

    def first_barred(self, f, rows, result, letters, found):
        """No term ahead of the one that is told is barred."""
        for part, term, lack in self.lacks(f, rows, result):
            if (part, term) == (found.part, found.term):
                return
            picked = [rows[j] for j in letters]
            if not any(lack):
                continue
            self.assertTrue(picked)
            self.assertEqual(rank_of([list(row) for row in picked] + [lack]), rank_of(picked))

    def test_wrong_values(self):
        f = letter_of(2, 0)
        rows = ((1, 0), (0, 1))
        for wrong in WRONG_EXPONENTS + [((1, 0),), ((1, 0), (0, 1), (1, 1))]:
            raised(self, BadMatrix, ("exponents",), put_back, f, wrong, (1, 0), [0])
            raised(self, BadMatrix, ("exponents",), put_back, f, wrong, None, None)
        for wrong in WRONG_RESULTS:
            raised(self, BadMatrix, ("result",), put_back, f, rows, wrong, [1])
            raised(self, BadMatrix, ("result",), put_back, f, rows, wrong, [1, 1])
        for wrong in wrong_letters(2):
            raised(self, BadNumber, ("letters", wrong), put_back, f, rows, (1, 0), wrong)
        raised(self, BadMatrix, ("exponents",), put_back, number_of(0, 1), (), (), [])

    def test_a_hundred_terms(self):
        # All terms of a sum of powers of x get the power of c that they lack.
        rows = ((1,), (1,))
        x, c = letter_of(2, 0), letter_of(2, 1)
        f = Quotient(Poly(2, [((k, 0), k + 1) for k in range(60)]), Poly(2, [((k, 0), 1) for k in range(60)]))
        found = self.check(f, rows, (7,), [1])
        self.assertEqual(found.at((2, 1)), f.at((2, 1)))
        self.assertTrue(same(found, called_one(found, [1])) is False)
        self.assertEqual(shown(put_back(f, rows, (7,), [1])), shown(found))


if __name__ == "__main__":
    unittest.main()
