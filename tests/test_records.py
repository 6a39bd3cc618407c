"""Points [84] to [87]: records of measurements, what they settle, and what is open."""

import random
import unittest
from fractions import Fraction

from allscales.errors import BadMatrix, BadNumber, Contradicted
from allscales.groups import groups_of
from allscales.matrices import kernel
from allscales.polys import Poly
from allscales.powers import power_value
from allscales.records import Contradiction, Open, Records, Settled, plan
from record_model import (Planted, columns, due_at, groups_at, letters_for, moved, orbits_of, powers_to, product,
                          result_for, some_point, told_point, told_row)
from support import NO_INTEGERS, NO_RATIOS, called, fraction, is_lowest, pair, raised, shown
from test_hanging import WRONG_EXPONENTS

NO_INPUTS = [None, 5, "ab", {}, [1, 2], (), (1,), (1, 2, 3), [(1, 2)]]
NO_INPUTS += [(1, item) for item in NO_RATIOS + (0, -1, (0, 1), (-1, 2))]
ZERO = (0, 1, (0, 1))
PENDULUM = ((1, 0), (0, 1), (1, -2))


class Case(unittest.TestCase):
    def records(self, exponents, result, rows):
        """The Records, which are right in all but the contradiction."""
        found = called(self, Records, exponents, result, rows)
        self.assertTrue({"exponents", "result", "rows", "orbits", "contradiction"} <= set(found.__dict__))
        self.assertEqual(shown(found.exponents), shown(tuple([tuple(row) for row in exponents])))
        self.assertEqual(shown(found.result), shown(tuple(result)))
        self.assertEqual(shown(found.rows), shown(tuple([(tuple([pair(fraction(item)) for item in inputs]),
                                                          pair(fraction(value))) for inputs, value in rows])))
        self.assertEqual(shown(found.orbits), shown(orbits_of(exponents, [inputs for inputs, _ in rows])))
        self.contradiction(found, exponents, result, rows)
        return found

    def contradiction(self, found, exponents, result, rows):
        wrong = first_wrong(exponents, result, rows)
        if wrong is None:
            self.assertIsNone(found.contradiction)
            return
        self.assertIs(found.contradiction.__class__, Contradiction)
        self.assertEqual(list(found.contradiction.__dict__), ["first", "second", "due"])
        first, second = wrong
        self.assertEqual(shown((found.contradiction.first, found.contradiction.second)), shown((first, second)))
        due = found.contradiction.due
        self.power_value(due)
        if powers_to(exponents, result) is None:
            self.assertEqual(due, ZERO)
        else:
            wanted = due_at(exponents, result, rows[first][0], rows[first][1], rows[second][0])
            self.assertTrue(wanted.same(due))

    def power_value(self, value):
        sign, k, size = value
        self.assertEqual(shown(value), shown(power_value(sign, k, size)))

    def settled(self, record, exponents, result, inputs):
        """What the record settles of inputs, which is right."""
        found = called(self, record.settled, inputs)
        rows = record.rows
        powers = powers_to(exponents, result)
        if powers is None:
            self.assertEqual(shown(found), shown(Settled(None, None, ZERO)))
            return found
        mark = groups_at(exponents, inputs)
        places = [k for k, (old, _) in enumerate(rows) if groups_at(exponents, old) == mark]
        if not places:
            self.open(record, exponents, inputs, found)
            return found
        self.assertIs(found.__class__, Settled)
        self.assertEqual(list(found.__dict__), ["place", "powers", "value"])
        self.assertEqual(shown(found.place), shown(places[0]))
        self.assertIsInstance(found.powers, tuple)
        self.assertEqual(len(found.powers), len(exponents))
        for at, item in enumerate(result):
            self.assertEqual(sum([fraction(power) * row[at] for power, row in zip(found.powers, exponents)]), item)
        for power in found.powers:
            self.assertTrue(is_lowest(power) and power[1] <= 12, power)
        self.power_value(found.value)
        wanted = due_at(exponents, result, rows[places[0]][0], rows[places[0]][1], inputs)
        self.assertTrue(wanted.same(found.value))
        return found

    def open(self, record, exponents, inputs, found):
        self.assertIs(found.__class__, Open)
        self.assertEqual(list(found.__dict__), ["pieces", "extra"])
        self.assertIsInstance(found.pieces, tuple)
        self.assertEqual(len(found.pieces), len(record.orbits))
        size = len(groups_of(exponents).basis)
        marks = [[pair(item) for item in groups_at(exponents, record.rows[orbit[0]][0])] for orbit in record.orbits]
        new = [pair(item) for item in groups_at(exponents, inputs)]
        for piece in found.pieces + (found.extra,):
            self.assertIs(piece.__class__, Poly)
            self.assertEqual(piece.size, size)
        for k, piece in enumerate(found.pieces):
            self.assertEqual([piece.at(mark) for mark in marks], [(1 if at == k else 0, 1) for at in range(len(marks))])
        self.assertEqual([found.extra.at(mark) for mark in marks], [(0, 1)] * len(marks))
        self.assertEqual(found.extra.at(new), (1, 1))


def first_wrong(exponents, result, rows):
    """(first, second) of the contradiction, None if the record is possible."""
    possible = powers_to(exponents, result) is not None
    firsts = {k: orbit[0] for orbit in orbits_of(exponents, [inputs for inputs, _ in rows]) for k in orbit}
    for k, (inputs, value) in enumerate(rows):
        if not possible and fraction(value) != 0:
            return (k, k)
        if possible:
            start = rows[firsts[k]]
            value = fraction(value)
            told = (0 if value == 0 else 1 if value > 0 else -1, 1, pair(abs(value)))
            if not due_at(exponents, result, start[0], start[1], inputs).same(told):
                return (firsts[k], k)
    return None


class Examples(Case):
    def test_fall(self):
        # The time of a fall from a height x with the acceleration a: one group, with the time of another fall.
        exponents = ((1, 0), (1, -2))
        record = self.records(exponents, (0, 1), [((5, 10), 1), ((20, 10), 2)])
        self.assertEqual((record.orbits, record.contradiction), (((0, 1),), None))
        found = self.settled(record, exponents, (0, 1), (10, 10))
        self.assertEqual((found.place, found.powers, found.value), (0, ((1, 2), (-1, 2)), (1, 2, (2, 1))))
        record = self.records(exponents, (0, 1), [((5, 10), 1), ((20, 10), 3)])
        self.assertEqual(record.contradiction.__dict__, {"first": 0, "second": 1, "due": (1, 1, (2, 1))})

    def test_no_rows(self):
        record = self.records(PENDULUM, (0, 1), [])
        self.assertEqual((record.rows, record.orbits, record.contradiction), ((), (), None))
        found = self.settled(record, PENDULUM, (0, 1), (1, 2, 3))
        self.assertEqual(found.pieces, ())
        self.assertEqual(self.records(((0,),), (0,), ()).orbits, ())

    def test_no_groups(self):
        exponents = ((1, 0), (0, 2))
        record = self.records(exponents, (1, 1), [])
        found = self.settled(record, exponents, (1, 1), (1, 2))
        self.assertEqual(found.extra, Poly(0, [((), 1)]))
        record = self.records(exponents, (1, 1), [((1, 1), -3)])
        self.assertEqual(self.settled(record, exponents, (1, 1), (2, 2)).value, (-1, 2, (72, 1)))
        self.assertEqual(self.settled(record, exponents, (1, 1), (2, 4)).value, (-1, 1, (12, 1)))

    def test_letters_without_unit(self):
        record = self.records(((0,), (1,)), (1,), [((1, 1), 2), ((2, 1), 3), ((1, 5), 10)])
        self.assertEqual((record.orbits, record.contradiction), (((0, 2), (1,)), None))
        self.assertIsInstance(self.settled(record, ((0,), (1,)), (1,), (3, 1)), Open)

    def test_each_rule_is_zero(self):
        exponents = ((1, 0), (2, 0))
        record = self.records(exponents, (0, 1), [((1, 1), 0), ((1, 2), (0, 5))])
        self.assertIsNone(record.contradiction)
        self.assertEqual(self.settled(record, exponents, (0, 1), (7, 7)).value, ZERO)
        self.assertIsNone(self.settled(self.records(exponents, (0, 1), []), exponents, (0, 1), (7, 7)).place)
        record = self.records(exponents, (0, 1), [((1, 1), 0), ((1, 2), 5), ((1, 2), 6)])
        self.assertEqual(record.contradiction.__dict__, {"first": 1, "second": 1, "due": ZERO})
        raised(self, Contradicted, (1, 1), record.settled, (1, 1))

    def test_values_of_any_sign(self):
        exponents = ((1,), (1,))
        for value in (-3, 0, 3, (-1, 7)):
            record = self.records(exponents, (2,), [((1, 2), value), ((3, 6), pair(9 * fraction(value)))])
            self.assertIsNone(record.contradiction)
            self.settled(record, exponents, (2,), (2, 4))
        record = self.records(exponents, (2,), [((1, 2), 0), ((3, 6), 1)])
        self.assertEqual(record.contradiction.due, ZERO)
        record = self.records(exponents, (2,), [((1, 2), 1), ((3, 6), 0)])
        self.assertEqual(record.contradiction.due, (1, 1, (9, 1)))
        record = self.records(exponents, (2,), [((1, 2), 1), ((3, 6), -9)])
        self.assertEqual(record.contradiction.due, (1, 1, (9, 1)))

    def test_due_is_a_root(self):
        record = self.records(((2,),), (1,), [((1,), -3), ((2,), -4)])
        self.assertEqual(record.contradiction.due, (-1, 2, (18, 1)))
        # No ratio is right for this row.
        self.assertIsNone(self.records(((2,),), (1,), [((1,), -3), ((4,), -6)]).contradiction)

    def test_the_first_contradicting_row(self):
        rows = [((1,), 1), ((2,), 2), ((3,), 4), ((4,), 5), ((5,), 5)]
        self.assertEqual(self.records(((1,),), (1,), rows).contradiction.second, 2)
        # The row at fault may be the first one of its orbit; then the second one is named.
        rows = [((1, 1), 5), ((2, 1), 7), ((2, 2), 1), ((4, 2), 14), ((3, 3), 15)]
        found = self.records(((1,), (1,)), (1,), rows).contradiction
        self.assertEqual((found.first, found.second, found.due), (0, 2, (1, 1, (10, 1))))

    def test_equal_inputs(self):
        record = self.records(PENDULUM, (0, 1), [((1, 2, 3), 4), (((2, 2), 2, 3), (8, 2))])
        self.assertIsNone(record.contradiction)
        record = self.records(PENDULUM, (0, 1), [((1, 2, 3), 4), ((1, 2, 3), 5)])
        self.assertEqual(record.contradiction.due, (1, 1, (4, 1)))

    def test_lists_that_are_changed(self):
        exponents, result, rows = [[1, 0], [0, 1]], [1, 1], [((1, 1), 1)]
        record = Records(exponents, result, rows)
        before = shown(record)
        exponents[0][0] = 5
        exponents.append([1, 1])
        result[0] = 7
        rows.append(((1, 1), 2))
        rows[0] = None
        self.assertEqual(shown(record), before)
        self.assertEqual(record.settled((2, 3)).value, (1, 1, (6, 1)))


class AtRandom(Case):
    def test_orbits(self):
        source = random.Random(1)
        beside = 0
        for _ in range(150):
            exponents = letters_for(source)
            point = some_point(source, len(exponents))
            rows = []
            for _ in range(source.randint(0, 6)):
                steps = [Fraction(source.randint(1, 5), source.randint(1, 5)) for _ in exponents[0]]
                new = list(moved(source, exponents, point, steps))
                if source.random() < 0.3:
                    new[source.randrange(len(new))] *= source.choice((2, 101, Fraction(10 ** 30 + 1, 10 ** 30)))
                rows.append((tuple(new), Fraction(source.randint(-3, 3))))
            record = self.records(exponents, result_for(source, exponents), [told_row(source, row) for row in rows])
            beside += len(record.orbits) > 1
        self.assertGreater(beside, 30)

    def test_orbits_by_roots(self):
        # The factors of the change are no ratios, but what it does to the letters is.
        exponents = ((2, 0), (4, 0), (0, 3), (2, 6))
        record = self.records(exponents, (1, 3), [((1, 1, 1, 1), 1), ((2, 4, 5, 50), 3)])
        self.assertEqual(record.orbits, ((0, 1),))
        self.assertEqual(record.contradiction.due, (1, 2, (50, 1)))
        self.assertEqual(self.records(exponents, (1, 3), [((1, 1, 1, 1), 1), ((2, 4, 5, 51), 3)]).orbits, ((0,), (1,)))

    def test_planted_rules(self):
        source = random.Random(2)
        seen = {}
        for _ in range(150):
            exponents = letters_for(source)
            result = result_for(source, exponents)
            planted = Planted(source, exponents, result, source.randint(1, 8), source.randint(1, 3))
            rows = planted.told(source)
            record = self.records(exponents, result, rows)
            self.assertIsNone(record.contradiction)
            for _ in range(2):
                inputs = some_point(source, len(exponents))
                if source.random() < 0.6:
                    steps = [Fraction(source.randint(1, 5), source.randint(1, 5)) for _ in result]
                    inputs = moved(source, exponents, source.choice(planted.rows)[0], steps)
                found = self.settled(record, exponents, result, told_point(source, inputs))
                seen[found.__class__] = seen.get(found.__class__, 0) + 1
        self.assertGreater(min(seen[Settled], seen[Open]), 30)

    def test_spoilt_values(self):
        source = random.Random(3)
        wrong = 0
        for _ in range(150):
            exponents = letters_for(source)
            result = result_for(source, exponents)
            planted = Planted(source, exponents, result, source.randint(2, 8), source.randint(1, 2))
            rows = list(planted.rows)
            for k in source.sample(range(len(rows)), source.randint(1, 2)):
                near = source.choice((Fraction(2), Fraction(10 ** 30 + 1, 10 ** 30), Fraction(-1), Fraction(0)))
                rows[k] = (rows[k][0], rows[k][1] * near)
            rows = [told_row(source, row) for row in rows]
            record = self.records(exponents, result, rows)
            if record.contradiction is not None:
                wrong += 1
                fields = (record.contradiction.first, record.contradiction.second)
                raised(self, Contradicted, fields, record.settled, rows[0][0])
        self.assertGreater(wrong, 70)

    def test_outside_of_the_span(self):
        source = random.Random(4)
        zero = 0
        for _ in range(60):
            exponents = letters_for(source)
            result = tuple([source.randint(-2, 2) for _ in exponents[0]])
            rows = [(some_point(source, len(exponents)), Fraction(source.choice((0, 0, 0, 1)))) for _ in range(3)]
            record = self.records(exponents, result, [told_row(source, row) for row in rows])
            if record.contradiction is None:
                self.settled(record, exponents, result, told_point(source, some_point(source, len(exponents))))
            zero += powers_to(exponents, result) is None
        self.assertGreater(zero, 8)

    def test_limits(self):
        source = random.Random(5)
        exponents = ((1, 0), (0, 1), (2, -1), (1, 12))
        result = (3, 2)
        for digits in (30, 1200):
            rows = []
            for _ in range(12):
                steps = [Fraction(source.randint(1, 10 ** 6), source.randint(1, 10 ** 6)) for _ in result]
                start = (Fraction(7, 3), Fraction(10 ** digits + 1, 10 ** digits), Fraction(5), Fraction(1))
                rows.append((moved(source, exponents, start, steps), 5 * product([pair(step) for step in steps], result)))
            rows = [told_row(source, row) for row in rows]
            record = Records(exponents, result, rows)
            self.assertEqual((record.orbits, record.contradiction), ((tuple(range(12)),), None))
            near = pair(fraction(rows[11][1]) * Fraction(10 ** 1000 + 1, 10 ** 1000))
            record = Records(exponents, result, rows[:11] + [(rows[11][0], near)])
            self.assertEqual((record.contradiction.first, record.contradiction.second), (0, 11))
            self.assertEqual(record.contradiction.due, (1, 1, pair(fraction(rows[11][1]))))

    def test_twelve_orbits(self):
        source = random.Random(6)
        exponents = ((1, 0), (0, 1), (2, -1), (1, 1), (0, 0))
        rows = [(tuple([source.randint(1, 10 ** 6) for _ in range(5)]), source.randint(-9, 9)) for _ in range(12)]
        record = self.records(exponents, (1, 2), rows)
        self.assertEqual(len(record.orbits), 12)
        self.settled(record, exponents, (1, 2), (1, 2, 3, 4, 5))
        self.assertEqual(self.settled(record, exponents, (1, 2), rows[7][0]).place, 7)
        # Groups of which each one tells one orbit alone from the first one.
        exponents = ((0,),) * 6
        rows = [(tuple([2 if at == k else 1 for at in range(6)]), k) for k in range(7)]
        record = self.records(exponents, (0,), rows)
        self.settled(record, exponents, (0,), (1, 1, 2, 2, 1, 1))

    def test_long_numbers(self):
        # Numbers of 4000 digits, and roots of them.
        exponents = ((2,), (4,))
        large = 10 ** 3999 + 7
        record = Records(exponents, (1,), [((large, 3), (1, large))])
        found = record.settled((5 * large, 75))
        self.assertEqual(found.value, power_value(1, 2, pair(Fraction(5, large ** 2))))
        self.assertIsInstance(record.settled((5 * large, 76)), Open)


class NewInputs(Case):
    def test_a_rule_with_the_record(self):
        # The sums of [86] are covariant and have the values of the record; at the new inputs they differ by 1.
        exponents = ((1, 0), (2, 0), (0, 1), (1, 1))
        result = (1, 2)
        rows = [((1, 2, 3, 4), 5), ((2, 2, 3, 4), -7), ((3, 2, 1, 4), 0)]
        record = self.records(exponents, result, rows)
        new = (1, 1, 1, 7)
        found = self.settled(record, exponents, result, new)
        basis = kernel(columns(exponents))
        powers = powers_to(exponents, result)
        self.assertEqual([power.denominator for power in powers], [1] * 4)

        def rule(inputs, extra):
            marks = [pair(product(inputs, row)) for row in basis]
            total = Fraction(0)
            for piece, (start, value) in zip(found.pieces, rows):
                ratio = product([pair(Fraction(a) / b) for a, b in zip(inputs, start)], [int(p) for p in powers])
                total += value * ratio * fraction(piece.at(marks))
            if extra:
                ratio = product([pair(Fraction(a) / b) for a, b in zip(inputs, new)], [int(p) for p in powers])
                total += ratio * fraction(found.extra.at(marks))
            return total

        for extra in (False, True):
            self.assertEqual([rule(inputs, extra) for inputs, _ in rows], [5, -7, 0])
            moved_new = moved(None, exponents, new, [Fraction(2), Fraction(3)])
            self.assertEqual(rule(moved_new, extra), 2 * 9 * rule(new, extra))
        self.assertEqual(rule(new, True) - rule(new, False), 1)


class Plans(Case):
    def test_examples(self):
        self.assertEqual(called(self, plan, PENDULUM, []), ())
        points = [(1, 1, 1), (2, 1, 2), (2, 1, 3), (8, 2, 3), ((2, 2), (1, 1), (2, 2)), (2, 1, 3)]
        self.assertEqual(called(self, plan, PENDULUM, points), (0, 2))
        self.assertEqual(called(self, plan, ((1, 0), (0, 1)), [(1, 2), (3, 4)]), (0,))
        self.assertEqual(plan(((0,),), [(1,), (2,), (1,)]), (0, 1))

    def test_random(self):
        source = random.Random(7)
        for _ in range(100):
            exponents = letters_for(source)
            planted = Planted(source, exponents, (0,) * len(exponents[0]), source.randint(1, 8), source.randint(1, 4))
            points = [told_point(source, inputs) for inputs, _ in planted.rows]
            found = called(self, plan, source.choice((list, tuple))(exponents), source.choice((list, tuple))(points))
            self.assertEqual(shown(found), shown(tuple([orbit[0] for orbit in orbits_of(exponents, points)])))
            # What is planned settles all of them.
            record = Records(exponents, (0,) * len(exponents[0]), [(points[k], 1) for k in found])
            self.assertTrue(all([isinstance(record.settled(point), Settled) for point in points]))

    def test_wrong_values(self):
        for wrong in WRONG_EXPONENTS:
            raised(self, BadMatrix, ("exponents",), plan, wrong, [None])
        exponents = [[1, 0], [0, 1]]
        for wrong in NO_INPUTS:
            raised(self, BadNumber, ("inputs", wrong), plan, exponents, [wrong])
            raised(self, BadNumber, ("inputs", wrong), plan, exponents, [(1, 2), wrong, None])


class Wrong(Case):
    def test_exponents_and_result(self):
        for wrong in WRONG_EXPONENTS:
            raised(self, BadMatrix, ("exponents",), Records, wrong, None, None)
        for wrong in [None, 5, "ab", [], (1,), (1, 2, 3), {}] + [[1, item] for item in NO_INTEGERS]:
            raised(self, BadMatrix, ("result",), Records, [[1, 0], [0, 1]], wrong, None)

    def test_rows(self):
        for wrong in (None, 5, "ab", {}, True, {0: ((1, 1), 1)}):
            raised(self, BadNumber, ("rows", wrong), Records, [[1, 0], [0, 1]], [1, 1], wrong)

    def test_row(self):
        right = ((1, 2), 3)
        wrong = [None, 5, "ab", {}, (), (right,), [(1, 2), 3], ((1, 2), 3, 4), ((1, 2),)]
        wrong += [(inputs, 1) for inputs in NO_INPUTS] + [((1, 2), value) for value in NO_RATIOS]
        for row in wrong:
            raised(self, BadNumber, ("row", row), Records, [[1, 0], [0, 1]], [1, 1], [row])
            raised(self, BadNumber, ("row", row), Records, [[1, 0], [0, 1]], (1, 1), (right, row, None))
            # A value outside of the span is found behind it.
            raised(self, BadNumber, ("row", row), Records, [[1, 0], [1, 0]], (1, 1), (right, row))

    def test_inputs(self):
        record = Records([[1, 0], [0, 1]], [1, 1], [((1, 2), 3), ((1, 2), 4)])
        zero = Records([[1, 0], [1, 0]], [1, 1], [])
        for wrong in NO_INPUTS:
            raised(self, BadNumber, ("inputs", wrong), record.settled, wrong)
            raised(self, BadNumber, ("inputs", wrong), zero.settled, wrong)
        raised(self, Contradicted, (0, 1), record.settled, (1, 1))


if __name__ == "__main__":
    unittest.main()
