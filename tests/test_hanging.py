"""Points [55] to [58]: on what a rule can hang."""

import random
import unittest
from fractions import Fraction

from allscales.errors import BadMatrix, BadNumber
from allscales.hanging import Hangs, Zero, hangs, moving_rule, quotient_rules, whole_share
from allscales.matrices import Answer, Bar, index_of, kernel
from allscales.quotients import Quotient
from allscales.worth import covariant
from lattices import rank_of
from support import NO_INTEGERS, called, fraction, is_lowest, pair, raised, shown

WRONG_EXPONENTS = [None, 5, "ab", [], (), [[]], [[], []], [[1], [1, 2]], [[1], 2], [1, 2], {}, [[1], None], [[1], "a"]]
WRONG_EXPONENTS += [[[1, item]] for item in NO_INTEGERS]


def dot(one, other):
    return sum([a * b for a, b in zip(one, other)])


def some_letters(source, most=6, wide=4):
    """Random exponents of letters: without unit, like others, products of others, or alone in a base unit."""
    width = source.randint(1, wide)
    limit = source.choice((1, 2, 6))
    rows = [tuple([source.randint(-limit, limit) for _ in range(width)]) for _ in range(source.randint(1, most))]
    for k in range(len(rows)):
        kind = source.random()
        if kind < 0.1:
            rows[k] = (0,) * width
        elif kind < 0.25:
            rows[k] = source.choice(rows)
        elif kind < 0.4:
            rows[k] = tuple([2 * a - b for a, b in zip(source.choice(rows), source.choice(rows))])
        elif kind < 0.55:
            rows[k] = tuple([source.choice((1, 2, 3)) if at == k % width else 0 for at in range(width)])
    return rows


def some_result(source, rows):
    """Random exponents of a value: of whole sums, of halves and thirds, or any."""
    many = source.choice((1, 1, 2, 3))
    multiples = [source.randint(-3, 3) for _ in rows]
    result = [sum([times * row[at] for times, row in zip(multiples, rows)]) for at in range(len(rows[0]))]
    if all([item % many == 0 for item in result]):
        result = [item // many for item in result]
    if source.random() < 0.25:
        result[source.randrange(len(result))] += source.choice((1, -1))
    return tuple(result)


class Case(unittest.TestCase):
    def whole(self, row, many):
        self.assertIsInstance(row, tuple)
        self.assertEqual(len(row), many)
        self.assertTrue(all([item.__class__ is int for item in row]))


class OnWhat(Case):
    def check(self, rows, result):
        """Fails unless hangs is right; returns the kinds, or "zero"."""
        found = called(self, hangs, rows, result)
        self.assertEqual(shown(hangs([list(row) for row in rows], list(result))), shown(found))
        if rank_of([list(row) for row in rows] + [list(result)]) > rank_of(rows):
            self.assertIs(found.__class__, Zero)
            self.assertEqual(list(found.__dict__), ["change"])
            self.whole(found.change, len(result))
            self.assertEqual([dot(found.change, row) for row in rows], [0] * len(rows))
            self.assertNotEqual(dot(found.change, result), 0)
            return ("zero",)
        self.assertIs(found.__class__, Hangs)
        self.assertEqual(list(found.__dict__), ["kinds", "powers", "groups", "changes"])
        for item in found.__dict__.values():
            self.assertIsInstance(item, tuple)
            self.assertEqual(len(item), len(rows))
        for j, kind in enumerate(found.kinds):
            self.check_letter(rows, result, found, j, kind)
        left = list(result)
        for row, power in zip(rows, found.powers):
            if power is not None:
                left = [a - fraction(power) * b for a, b in zip(left, row)]
        free = [row for row, kind in zip(rows, found.kinds) if kind == "free"]
        if free:
            self.assertEqual(rank_of(free + [left]), rank_of(free))
        else:
            self.assertEqual(left, [0] * len(left))
        return found.kinds

    def check_letter(self, rows, result, found, j, kind):
        if kind == "free":
            self.assertIsNone(found.powers[j])
            self.assertIsNone(found.changes[j])
            self.whole(found.groups[j], len(rows))
            self.assertNotEqual(found.groups[j][j], 0)
            for at in range(len(result)):
                self.assertEqual(dot(found.groups[j], [row[at] for row in rows]), 0)
            return
        self.assertIn(kind, ("fixed", "none"))
        self.assertIsNone(found.groups[j])
        self.assertTrue(is_lowest(found.powers[j]))
        self.assertIs(kind == "none", found.powers[j] == (0, 1))
        self.whole(found.changes[j], len(result))
        for k, row in enumerate(rows):
            self.assertIs(dot(found.changes[j], row) == 0, k != j)
        # The change tells the power: it multiplies the value and this letter alone.
        self.assertEqual(fraction(found.powers[j]), Fraction(dot(found.changes[j], result),
                                                             dot(found.changes[j], rows[j])))

    def test_plain(self):
        for rows, result, kinds, powers in (
                (((1, 0), (0, 1)), (1, -2), ("fixed", "fixed"), ((1, 1), (-2, 1))),
                (((1, 0), (0, 1)), (3, 0), ("fixed", "none"), ((3, 1), (0, 1))),
                (((2, 0), (0, 3)), (1, 1), ("fixed", "fixed"), ((1, 2), (1, 3))),
                (((1, 0), (2, 0), (0, 5)), (7, 1), ("free", "free", "fixed"), (None, None, (1, 5))),
                (((0, 0), (1, 1)), (2, 2), ("free", "fixed"), (None, (2, 1))),
                (((0,),), (0,), ("free",), (None,)), (((1,),), (0,), ("none",), ((0, 1),)),
                (((1, 0, 0), (0, 1, 0), (1, 1, 0), (0, 0, 1)), (0, 0, 0), ("free",) * 3 + ("none",),
                 (None,) * 3 + ((0, 1),))):
            self.check(rows, result)
            found = hangs(rows, result)
            self.assertEqual(shown((found.kinds, found.powers)), shown((kinds, powers)))
        for rows, result in ((((1, 0), (2, 0)), (0, 1)), (((0,),), (1,)), (((1, 1), (2, 2)), (1, 2))):
            self.assertEqual(self.check(rows, result), ("zero",))

    def test_random(self):
        source = random.Random(561)
        met = {"free": 0, "fixed": 0, "none": 0, "zero": 0}
        for _ in range(500):
            rows = some_letters(source)
            for kind in self.check(tuple(rows), some_result(source, rows)):
                met[kind] += 1
        self.assertGreater(min(met.values()), 30, met)

    def test_many_letters(self):
        source = random.Random(562)
        rows = tuple([tuple([source.randint(-3,
                                            3) for _ in range(30)]) for _ in range(28)] + [(10 ** 399,) + (0,) * 29])
        result = tuple([sum([row[at] for row in rows]) for at in range(30)])
        self.assertEqual(self.check(rows, result), ("fixed",) * 29)
        rows = tuple([tuple([source.randint(-3, 3) for _ in range(30)]) for _ in range(60)])
        self.assertEqual(self.check(rows, (1,) * 30), ("free",) * 60)


class ByQuotients(Case):
    def has_whole(self, rows, result):
        """Whether a result is a sum of integer multiples, by indices of lattices."""
        wide = [list(row) for row in rows] + [list(result)]
        if not any([any(row) for row in rows]):
            return not any(result)
        return rank_of(wide) == rank_of(rows) and index_of(wide) == index_of([list(row) for row in rows])

    def check(self, rows, result):
        found = called(self, quotient_rules, rows, result)
        width = len(result)
        if self.has_whole(rows, result):
            self.assertIs(found.__class__, Answer)
            self.whole(found.spot, len(rows))
            self.assertEqual([dot(found.spot, [row[at] for row in rows]) for at in range(width)], list(result))
            self.assertEqual(shown(found.basis), shown(kernel([[row[at] for row in rows] for at in range(width)])))
        else:
            self.assertIs(found.__class__, Bar)
            self.assertEqual(len(found.weights), width)
            self.assertTrue(all([is_lowest(weight) for weight in found.weights]))
            weights = [fraction(weight) for weight in found.weights]
            self.assertTrue(all([Fraction(dot(weights, row)).denominator == 1 for row in rows]))
            self.assertGreater(Fraction(dot(weights, result)).denominator, 1)
        for letter in range(len(rows)):
            self.check_moving(rows, result, letter, found)
        return found.__class__

    def check_moving(self, rows, result, letter, rules):
        found = called(self, moving_rule, rows, result, letter)
        free = any([group[letter] for group in kernel([[row[at] for row in rows] for at in range(len(result))])])
        if rules.__class__ is Bar or not free:
            self.assertIsNone(found)
            return
        self.assertIs(found.__class__, Quotient)
        self.assertEqual(found.size, len(rows))
        self.assertIs(covariant(found, rows, result), True)
        self.assertEqual(([ratio for _, ratio in found.top.terms], [ratio for _, ratio in found.bottom.terms]),
                         ([(1, 1), (1, 1)], [(1, 1)]))
        one, other = [exponents for exponents, _ in found.top.terms]
        self.assertNotEqual(one[letter], other[letter])

    def test_plain(self):
        self.assertIs(self.check(((2, 0), (0, 3)), (1, 0)), Bar)
        self.assertIs(self.check(((2, 0), (0, 3)), (4, -3)), Answer)
        self.assertIs(self.check(((2, 0), (3, 0), (0, 1)), (1, 5)), Answer)
        self.assertIs(self.check(((0,),), (0,)), Answer)
        self.assertIs(self.check(((0,),), (1,)), Bar)

    def test_random(self):
        source = random.Random(571)
        met = {Answer: 0, Bar: 0}
        for _ in range(300):
            rows = some_letters(source, 5, 3)
            met[self.check(tuple(rows), some_result(source, rows))] += 1
        self.assertGreater(min(met.values()), 30, met)

    def test_whole_share(self):
        source = random.Random(572)
        for rows, share in (([[1, 0], [0, 1]], 1), ([[2, 0], [0, 3]], 6), ([[0, 0]], 1), ([[4], [6]], 2),
                            ([[5, 5]], 5)):
            self.assertEqual(shown(called(self, whole_share, rows)), shown(share))
        for _ in range(150):
            rows = some_letters(source, 4, 2)
            share = called(self, whole_share, rows)
            if share > 12:
                continue
            # Of all results in a box whose sides are multiples of all shares, just one in so many has rules.
            side = share * (1 if rank_of(rows) == len(rows[0]) else 0)
            if side:
                box = [(a,) for a in range(side)]
                if len(rows[0]) == 2:
                    box = [(a, b) for a in range(side) for b in range(side)]
                good = [result for result in box if self.has_whole(rows, result)]
                self.assertEqual(len(good) * share, len(box))


class Wrong(Case):
    def test_exponents_and_results(self):
        for exponents in WRONG_EXPONENTS:
            for result in ((1,), (1, 2), None):
                for function, more in ((hangs, ()), (quotient_rules, ()), (moving_rule, (0,)), (moving_rule, (None,))):
                    raised(self, BadMatrix, ("exponents",), function, exponents, result, *more)
            raised(self, BadMatrix, ("exponents",), whole_share, exponents)
        for result in [None, 5, "ab", [], (1,), (1, 2, 3), {0: 1, 1: 2}] + [(1, item) for item in NO_INTEGERS]:
            for rows in (((1, 2), (3, 4)), [[1, 2]], [(0, 0)]):
                for function, more in ((hangs, ()), (quotient_rules, ()), (moving_rule, (0,)), (moving_rule, (9,))):
                    raised(self, BadMatrix, ("result",), function, rows, result, *more)

    def test_letters(self):
        for letter in NO_INTEGERS + (-1, 2, 10 ** 30):
            raised(self, BadNumber, ("letter", letter), moving_rule, ((1, 2), (3, 4)), (1, 2), letter)
            raised(self, BadNumber, ("letter", letter), moving_rule, [[0, 0], [0, 0]], [1, 2], letter)

    def test_lists_and_tuples(self):
        rows, result = [[1, 0], [2, 0], [0, 2]], [3, 4]
        tuples = tuple([tuple(row) for row in rows])
        self.assertEqual(shown(hangs(rows, result)), shown(hangs(tuples, tuple(result))))
        self.assertEqual(shown(quotient_rules(rows, result)), shown(quotient_rules(tuples, tuple(result))))
        self.assertEqual(shown(moving_rule(rows, result, 0)), shown(moving_rule(tuples, tuple(result), 0)))
        self.assertEqual(whole_share(rows), whole_share(tuples))
        self.assertEqual(pair(whole_share(rows)), (2, 1))


if __name__ == "__main__":
    unittest.main()
