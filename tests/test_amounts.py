"""Points [19] and [21] to [24]: amounts, their texts, readings, and maps that do not close."""

import random
import unittest
from fractions import Fraction

from allscales.amounts import Amount, Loop, amount_text, converted, read_amount, ring_of
from allscales.errors import BadNumber, BadText, ByZero, NoUnit, TooLarge, Unlike
from allscales.units import Units
from support import NO_INTEGERS, NO_RATIOS, NO_TEXTS, called, fraction, in_other_terms, is_lowest, pair, raised, shown
from test_units import Model

PLAIN = ("base m s kg\nunit km 1000 m\nunit h 3600 s\nunit n 1 kg m s^-2\nunit v 5/18 km h^-1\nscale c kg 1/2 -273/2\n"
         "scale d c -2 5\nscale back d -1/3 7/2\nscale own kg 1/2 -273/2\nscale plain km 1 0\nunit none 7/3 1")


def some_number(source, digits=30):
    """A random Fraction, now and then 0, below 0, whole, or with many figures."""
    limit = 10 ** source.choice((1, 1, 2, digits))
    if source.random() < 0.1:
        return Fraction(0)
    return Fraction(source.randint(-limit, limit), source.choice((1, 1, source.randint(1, limit))))


def some_exponents(source, many):
    """Random exponents from -9 to 9."""
    return tuple([source.choice((0, 0, source.randint(-9, 9))) for _ in range(many)])


class Amounts(unittest.TestCase):
    def check(self, found, exponents, number):
        self.assertIs(found.__class__, Amount)
        self.assertEqual(sorted(found.__dict__), ["exponents", "number"])
        self.assertEqual(shown(found.exponents), shown(exponents))
        self.assertEqual(shown(found.number), shown(pair(number)))

    def test_attributes(self):
        self.check(called(self, Amount, (1, -2), (-6, 4)), (1, -2), Fraction(-3, 2))
        self.check(Amount((0,), 0), (0,), 0)
        self.check(Amount((0,), (0, 7)), (0,), 0)
        self.check(Amount((9,) * 6, -7), (9,) * 6, -7)

    def test_operations(self):
        source = random.Random(211)
        for _ in range(400):
            many = source.randint(1, 6)
            x, y = some_number(source), some_number(source)
            a, b = some_exponents(source, many), some_exponents(source, many)
            one = Amount(a, in_other_terms(source, pair(x)))
            like = Amount(a, in_other_terms(source, pair(y)))
            other = Amount(b, in_other_terms(source, pair(y)))
            self.check(called(self, one.__add__, like), a, x + y)
            self.check(called(self, one.__sub__, like), a, x - y)
            self.check(one + like, a, x + y)
            self.check(one - like, a, x - y)
            self.check(-one, a, -x)
            self.check(called(self, one.__mul__, other), tuple([i + j for i, j in zip(a, b)]), x * y)
            self.assertIs(called(self, one.less, like), x < y)
            self.assertIs(one.less(one), False)
            if y != 0:
                self.check(called(self, one.over, other), tuple([i - j for i, j in zip(a, b)]), x / y)
            else:
                raised(self, ByZero, (0,), one.over, other)
            if a != b:
                for operation in (one.__add__, one.__sub__, one.less):
                    raised(self, Unlike, (0, a, b), operation, other)
            self.check(one, a, x)
            self.check(like, a, y)

    def test_power(self):
        source = random.Random(212)
        for _ in range(200):
            a, x = some_exponents(source, source.randint(1, 6)), some_number(source)
            amount = Amount(a, pair(x))
            for n in range(-6, 7):
                if x == 0 and n < 0:
                    raised(self, ByZero, (0,), amount.power, n)
                else:
                    self.check(called(self, amount.power, n), tuple([n * item for item in a]), x ** n)
        self.check(Amount((1, 2), 0).power(0), (0, 0), 1)
        self.check(Amount((1, 2), (1, 3)).power(99), (99, 198), Fraction(1, 3 ** 99))
        self.check(Amount((1, 2), (-1, 3)).power(-99), (-99, -198), -3 ** 99)

    def test_equal(self):
        one = Amount((1, 0), (1, 2))
        self.assertTrue(one == Amount((1, 0), (2, 4)))
        self.assertFalse(one != Amount((1, 0), (2, 4)))
        for other in (Amount((1, 0), (-1, 2)), Amount((1, 0), (1, 3)), Amount((0, 1), (1, 2)), Amount((1,), (1, 2)),
                      (1, 2), None, 0, Units("base m")):
            self.assertFalse(one == other)
        self.assertTrue(Amount((0,), 0) == Amount((0,), (0, 5)))
        self.assertFalse(Amount((0,), 0) == Amount((1,), 0))

    def test_wrong_fields(self):
        wrong = [(), [1], [1, 2], None, 1, "1", "12", {1: 2}] + [(item,) for item in NO_INTEGERS]
        wrong += [(1, item) for item in NO_INTEGERS]
        for exponents in wrong:
            raised(self, BadNumber, ("exponents", exponents), Amount, exponents, 1)
            raised(self, BadNumber, ("exponents", exponents), Amount, exponents, None)
        for number in NO_RATIOS:
            raised(self, BadNumber, ("number", number), Amount, (1, 2), number)
            raised(self, BadNumber, ("number", number), Amount, (0,), number)

    def test_wrong_powers(self):
        for n in NO_INTEGERS:
            raised(self, BadNumber, ("power", n), Amount((1,), 2).power, n)
            raised(self, BadNumber, ("power", n), Amount((1,), 0).power, n)

    def test_zero_below(self):
        raised(self, ByZero, (0,), Amount((1,), 2).over, Amount((0,), 0))
        raised(self, ByZero, (0,), Amount((1,), 0).over, Amount((1,), 0))
        raised(self, Unlike, (0, (1,), (0,)), Amount((1,), 0).less, Amount((0,), 0))


class Texts(unittest.TestCase):
    def setUp(self):
        self.units = Units(PLAIN)

    def test_plain(self):
        for text, exponents, number in (("5 km", (1, 0, 0), 5000), ("-1/2 v", (1, -1, 0), Fraction(-25, 648)),
                                        ("5", (0, 0, 0), 5), ("06/4 1", (0, 0, 0), Fraction(3, 2)),
                                        ("0 n^2 m", (3, -4, 2), 0), ("3 none^2", (0, 0, 0), Fraction(49, 3)),
                                        ("-0", (0, 0, 0), 0), ("7 m m^-1", (0, 0, 0), 7)):
            found = called(self, read_amount, self.units, text)
            self.assertIs(found.__class__, Amount)
            self.assertEqual(shown(found), shown(Amount(exponents, pair(number))))
        self.assertEqual(called(self, amount_text, self.units, Amount((1, 0, 0), 5000), "km"), "5 km")
        self.assertEqual(amount_text(self.units, Amount((1, -1, 0), (-25, 648)), "v"), "-1/2 v")
        self.assertEqual(amount_text(self.units, Amount((1, -1, 0), 0), "km h^-1"), "0 km h^-1")
        self.assertEqual(amount_text(self.units, Amount((0, 0, 0), (7, 3)), "1"), "7/3")
        self.assertEqual(amount_text(self.units, Amount((0, 0, 0), (7, 3)), "none"), "1 none")
        self.assertEqual(amount_text(self.units, Amount((0, 0, 0), 3), "m^0"), "3 m^0")

    def test_there_and_back(self):
        source = random.Random(221)
        for _ in range(200):
            model = Model(source)
            units = Units(model.text)
            words, exponents, size = model.words(source)
            number = some_number(source)
            text = f"{number} {words}"
            amount = read_amount(units, text)
            self.assertEqual(shown(amount), shown(Amount(exponents, pair(number * size))))
            self.assertEqual(called(self, amount_text, units, amount, words), str(number) if words == "1" else text)

    def test_no_text(self):
        for value in NO_TEXTS:
            raised(self, BadText, (0, 0), read_amount, self.units, value)
            raised(self, BadText, (0, 0), amount_text, self.units, Amount((1, 0, 0), 1), value)

    def test_no_ratio(self):
        for text in ("", " ", "m", "km 5", " 5 m", "1.5 m", "1/0 m", "+1 m", "5/ x", "x X", "1/-2", "--1", "5m", "5\n",
                     "8" * 4001, "1/" + "8" * 4001 + " m", "1\t", "\u0661 m"):
            raised(self, BadText, (1, 1), read_amount, self.units, text)

    def test_wrong_words(self):
        for text, column in (("5 ", 2), ("5  m", 2), ("5 m ", 3), ("5 M", 2), ("5 m^", 2), ("5 m^01", 2),
                             ("5 m^100", 2),
                             ("5 5", 2), ("5 1 m", 3), ("5 1 1", 3), ("5 1 x", 3), ("5 1 ", 3), ("5 m 1", 3),
                             ("5 m s 1", 4), ("5 m M x", 3), ("5 1 c", 3), ("5 m\n", 2), ("5 -1", 2), ("5 m^-0", 2)):
            raised(self, BadText, (1, column), read_amount, self.units, text)
        for text, name in (("5 x", "x"), ("5 m x^2", "x"), ("5 c", "c"), ("5 m back^2 1", "back"), ("5 x M", "x"),
                           ("0 unit", "unit"), ("5 d c", "d")):
            raised(self, NoUnit, (name,), read_amount, self.units, text)
        amount = Amount((1, 0, 0), 1)
        for words, column in (("", 1), ("m ", 2), ("1 m", 2), ("m 1", 2), ("5 m", 1), ("m X x", 2)):
            raised(self, BadText, (1, column), amount_text, self.units, amount, words)
        for words, name in (("c", "c"), ("m x", "x"), ("x X", "x")):
            raised(self, NoUnit, (name,), amount_text, self.units, amount, words)

    def test_long_words_are_taken(self):
        number = int("7" * 4000)
        self.assertEqual(read_amount(self.units, "7" * 4000 + " km").number, (1000 * number, 1))
        amount = Amount((1, 0, 0), 1000 * number)
        self.assertEqual(amount_text(self.units, amount, "km"), "7" * 4000 + " km")
        raised(self, TooLarge, ("digits", 4003, 4000), amount_text, self.units, amount, "m")

    def test_order_of_errors(self):
        long = Amount((1, 0, 0), (1, 10 ** 4000))
        raised(self, TooLarge, ("digits", 4001, 4000), amount_text, self.units, long, "m")
        raised(self, TooLarge, ("digits", 4004, 4000), amount_text, self.units, long, "km")
        raised(self, Unlike, (0, (1, 0, 0), (0, 1, 0)), amount_text, self.units, long, "s")
        raised(self, Unlike, (0, (1, 0, 0), (0, 0, 0)), amount_text, self.units, long, "1")
        raised(self, NoUnit, ("x",), amount_text, self.units, long, "x")
        raised(self, BadText, (1, 1), amount_text, self.units, long, "X")
        raised(self, Unlike, (0, (1, 0, 0), (2, 0, 0)), amount_text, self.units, Amount((1, 0, 0), 0), "m^2")


class Readings(unittest.TestCase):
    def setUp(self):
        self.units = Units(PLAIN)

    def test_plain(self):
        for number, name, other, found in (
                (5, "km", "m", (5000, 1)), ((1, 2), "m", "km", (1, 2000)), (0, "m", "km", (0, 1)),
                (36, "v", "v", (36, 1)), (0, "c", "kg", (-273, 2)), (0, "kg", "c", (273, 1)),
                (3, "d", "c", (-1, 1)), ((-1, 1), "c", "d", (3, 1)), (0, "back", "kg", (-275, 2)),
                ((2, 4), "plain", "m", (500, 1)), (7, "own", "c", (7, 1)), (1, "none", "none", (1, 1))):
            self.assertEqual(shown(called(self, converted, self.units, number, name, other)), shown(found))

    def test_there_and_back_and_by_a_third_name(self):
        source = random.Random(231)
        for _ in range(200):
            lines = ["base m s", f"unit u {source.randint(1, 9)}/{source.randint(1, 9)} m^2 s"]
            names = ["u"]
            maps = {"u": (Units("\n".join(lines)).size_of("u"), (0, 1))}
            for k in range(source.randint(1, 8)):
                a, b = some_number(source, 4) or Fraction(-1, 3), some_number(source, 4)
                below = source.choice(names)
                names.append(f"z{k}")
                lines.append(f"scale z{k} {below} {a} {b}")
                p, q = maps[below]
                maps[f"z{k}"] = (fraction(p) * a, fraction(p) * b + fraction(q))
            units = Units("\n".join(lines))
            one, two, third = source.choice(names), source.choice(names), source.choice(names)
            number = some_number(source)
            there = called(self, converted, units, in_other_terms(source, pair(number)), one, two)
            (p, q), (r, s) = maps[one], maps[two]
            self.assertEqual(shown(there),
                             shown(pair((fraction(p) * number + fraction(q) - fraction(s)) / fraction(r))))
            self.assertEqual(converted(units, there, two, one), pair(number))
            self.assertEqual(converted(units, converted(units, pair(number), one, third), third, two), there)

    def test_errors(self):
        for number in NO_RATIOS:
            raised(self, BadNumber, ("number", number), converted, self.units, number, "m", "km")
            raised(self, BadNumber, ("number", number), converted, self.units, number, "x", "y")
        wrong = [None, 5, True, b"m", ["m"], ("m",), {}, "x", "", "m ", "m^1", "1", "m s", "M", "base"]
        for name in wrong:
            raised(self, NoUnit, (name,), converted, self.units, 1, name, "km")
            raised(self, NoUnit, (name,), converted, self.units, 1, "h", name)
            raised(self, NoUnit, (name,), converted, self.units, 1, name, "y")
        raised(self, Unlike, (0, (1, 0, 0), (0, 1, 0)), converted, self.units, 1, "km", "h")
        raised(self, Unlike, (0, (0, 0, 1), (1, 0, 0)), converted, self.units, 0, "back", "plain")


class Rings(unittest.TestCase):
    def walk(self, maps, loop):
        """Fails unless a Loop is a ring of steps with its factor and shift."""
        self.assertIs(loop.__class__, Loop)
        self.assertEqual(list(loop.__dict__), ["steps", "factor", "shift"])
        self.assertIsInstance(loop.steps, tuple)
        self.assertTrue(is_lowest(loop.factor) and is_lowest(loop.shift))
        self.assertNotEqual((loop.factor, loop.shift), ((1, 1), (0, 1)))
        readings = [Fraction(0), Fraction(1)]
        ends = []
        for step in loop.steps:
            self.assertIsInstance(step, tuple)
            index, way = step
            self.assertIn(shown(way), (shown(1), shown(-1)))
            self.assertIs(index.__class__, int)
            self.assertIn(index, range(len(maps)))
            name, other, a, b = maps[index]
            a, b = fraction(a), fraction(b)
            if way == 1:
                readings = [a * reading + b for reading in readings]
                ends.append((name, other))
            else:
                readings = [(reading - b) / a for reading in readings]
                ends.append((other, name))
        self.assertTrue(ends)
        for at, (begin, _) in enumerate(ends):
            self.assertEqual(ends[at - 1][1], begin)
        self.assertEqual(pair(readings[0]), loop.shift)
        self.assertEqual(pair(readings[1] - readings[0]), loop.factor)

    def test_plain(self):
        self.assertIsNone(ring_of([]))
        self.assertIsNone(ring_of([("a", "b", 2, 3), ("b", "c", (1, 2), 0), ("a", "c", 1, (3, 2))]))
        self.assertIsNone(ring_of([("a", "a", (2, 2), (0, 3))]))
        self.assertIsNone(ring_of((("", "a b", -3, 1), ("a b", "", (-1, 3), (1, 3)))))
        for maps in ([("a", "a", 2, 0)], [("a", "a", 1, 1)], [("a", "b", 2, 3), ("b", "c", (1, 2), 0),
                                                              ("a", "c", 1, 1)],
                     [("a", "b", 1, 0), ("a", "b", -1, 0)], [("a", "b", 1, 0), ("b", "a", 1, (-1, 5))],
                     [("a", "b", 1, 0), ("c", "d", 1, 0), ("d", "e", 2, 0), ("c", "e", 3, 0)]):
            self.walk(maps, called(self, ring_of, maps))

    def test_random(self):
        source = random.Random(241)
        for _ in range(300):
            names = [f"n{k}" for k in range(source.randint(1, 9))]
            lots = {name: source.randint(0, 2) for name in names}
            truth = {name: (some_number(source) or Fraction(-2, 3), some_number(source)) for name in names}
            maps = []
            for _ in range(source.randint(0, 14)):
                one = source.choice(names)
                other = source.choice([name for name in names if lots[name] == lots[one]])
                (p, q), (r, s) = truth[one], truth[other]
                a, b = r / p, s - r * q / p
                maps.append((one, other, in_other_terms(source, pair(a)), in_other_terms(source, pair(b))))
            self.assertIsNone(called(self, ring_of, maps))
            self.assertIsNone(ring_of(tuple(maps)))
            if maps:
                self.turn(source, maps)

    def turn(self, source, maps):
        """Turns one of maps that close a little, so that they close only if no ring has it."""
        at = source.randrange(len(maps))
        one, other, a, b = maps[at]
        turned = list(maps)
        if source.random() < 0.5:
            turned[at] = (one, other, a, pair(fraction(b) + Fraction(1, 10 ** 30)))
        else:
            turned[at] = (one, other, pair(fraction(a) * (1 + Fraction(1, 10 ** 30))), b)
        joined = {one}
        for _ in maps:
            for k, (name, end, _, _) in enumerate(maps):
                if k != at and (name in joined or end in joined):
                    joined.update([name, end])
        found = called(self, ring_of, turned)
        if other in joined:
            self.walk(turned, found)
            self.assertIn(at, [index for index, _ in found.steps])
        else:
            self.assertIsNone(found)

    def test_no_map(self):
        good = ("a", "b", 1, 0)
        wrong = [None, 5, "abcd", ["a", "b", 1, 0], (), ("a", "b", 1), ("a", "b", 1, 0, 0), (1, "b", 1, 0),
                 ("a", None, 1, 0), (b"a", "b", 1, 0), ("a", "b", 0, 1), ("a", "b", (0, 5), 1)]
        wrong += [("a", "b", item, 0) for item in NO_RATIOS] + [("a", "b", 1, item) for item in NO_RATIOS]
        for item in wrong:
            raised(self, BadNumber, ("map", 0), ring_of, [item, None])
            raised(self, BadNumber, ("map", 2), ring_of, [good, ("a", "b", 2, 0), item, None])


if __name__ == "__main__":
    unittest.main()
