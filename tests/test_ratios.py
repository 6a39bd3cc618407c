"""Point [4]: exact fractions."""

import random
import re
import unittest
from fractions import Fraction
from math import gcd

from allscales.errors import BadNumber, BadText, TooLarge
from allscales.ratios import ratio_of, ratio_text, root_of
from support import NO_INTEGERS, NO_RATIOS, NO_TEXTS, called, in_other_terms, is_lowest, pair, raised, shown

SIGNS = [chr(code) for code in range(32, 127)] + ["\n"]
BEGINNING = re.compile(r"-?([0-9]+(/[0-9]*)?)?")
WHOLE = re.compile(r"-?[0-9]+(/[0-9]+)?")


def first_wrong(text):
    """The first column at which no text of a ratio goes on, 0 for a whole one: the plain way."""
    if WHOLE.fullmatch(text):
        return 0
    good = 0
    while good < len(text) and BEGINNING.fullmatch(text[:good + 1]):
        good += 1
    return good + 1


class RatioOf(unittest.TestCase):
    def check(self, text):
        column = first_wrong(text)
        digits = text.split("/")
        if column:
            raised(self, BadText, (1, column), ratio_of, text)
        elif len(digits) == 2 and int(digits[1]) == 0:
            raised(self, BadText, (1, len(digits[0]) + 2), ratio_of, text)
        else:
            self.assertEqual(shown(called(self, ratio_of, text)), shown(pair(Fraction(text))))

    def test_plain(self):
        for text, ratio in (("6/4", (3, 2)), ("-0", (0, 1)), ("0", (0, 1)), ("-0/7", (0, 1)), ("007", (7, 1)),
                            ("-3", (-3, 1)), ("-0012/008", (-3, 2)), ("1/2", (1, 2)), ("10/5", (2, 1))):
            self.assertEqual(shown(called(self, ratio_of, text)), shown(ratio))

    def test_random_texts(self):
        source = random.Random(41)
        for _ in range(300):
            text = source.choice(("", "-")) + "0" * source.randint(0, 3) + str(source.randint(0, 10 ** 12))
            if source.random() < 0.6:
                text += "/" + "0" * source.randint(0, 3) + str(source.randint(0, 10 ** source.randint(0, 12)))
            self.check(text)

    def test_each_sign_at_each_place(self):
        for text in ("", "-", "0", "12", "-3/4", "-10/20", "7/", "5/0", "-0/00"):
            self.check(text)
            for at in range(len(text) + 1):
                self.check(text[:at])
                self.check(text[:at] + text[at + 1:])
                for sign in SIGNS:
                    self.check(text[:at] + sign + text[at:])
                    self.check(text[:at] + sign + text[at + 1:])

    def test_mere_beginnings(self):
        for text, column in (("", 1), ("-", 2), ("3/", 3), ("-12/", 5), ("--1", 2), ("1//2", 3), ("1/-2", 3),
                             ("+1", 1), (" 1", 1), ("1 ", 2), ("1/2/3", 4), ("1.5", 2), ("1\n", 2), ("/2", 1)):
            raised(self, BadText, (1, column), ratio_of, text)

    def test_other_digits(self):
        for text, column in (("\u0661", 1), ("1\u0662", 2), ("1/\u0663", 3), ("\u00b2", 1), ("1\uff11", 2)):
            raised(self, BadText, (1, column), ratio_of, text)

    def test_lengths(self):
        for many in (3998, 3999, 4000):
            self.assertEqual(ratio_of("9" * many), (10 ** many - 1, 1))
            self.assertEqual(ratio_of("-1/" + "9" * many), (-1, 10 ** many - 1))
            self.assertEqual(ratio_of("0" * (many - 1) + "4/" + "0" * (many - 1) + "6"), (2, 3))
        for many in (4001, 4002, 4003, 4301, 6000):
            for digit in "09":
                raised(self, TooLarge, ("digits", many, 4000), ratio_of, digit * many)
                raised(self, TooLarge, ("digits", many, 4000), ratio_of, "-" + digit * many + "/7")
                raised(self, TooLarge, ("digits", many, 4000), ratio_of, "7/" + digit * many)
                raised(self, TooLarge, ("digits", many, 4000), ratio_of, digit * many + "/" + "3" * 5000)
                raised(self, TooLarge, ("digits", many, 4000), ratio_of, "3" * 4000 + "/" + digit * many)

    def test_first_error_listed(self):
        raised(self, TooLarge, ("digits", 4001, 4000), ratio_of, "1" * 4001 + "/0")
        raised(self, TooLarge, ("digits", 4001, 4000), ratio_of, "1/" + "0" * 4001)
        raised(self, BadText, (1, 4002), ratio_of, "1" * 4001 + "x")
        raised(self, BadText, (1, 4003), ratio_of, "1" * 4001 + "/")
        raised(self, BadText, (1, 5), ratio_of, "1/00x")
        raised(self, BadText, (1, 3), ratio_of, "1/" + "0" * 4000)
        raised(self, BadText, (1, 5004), ratio_of, "-" + "1" * 5001 + "/x" + "0" * 5000)

    def test_no_text(self):
        for value in NO_TEXTS:
            raised(self, BadText, (0, 0), ratio_of, value)


class RatioText(unittest.TestCase):
    def test_shortest(self):
        for ratio, text in ((0, "0"), (-7, "-7"), ((6, 4), "3/2"), ((-6, 4), "-3/2"), ((8, 4), "2"), ((0, 9), "0"),
                            ((1, 10), "1/10"), ((-30, 10), "-3")):
            self.assertEqual(called(self, ratio_text, ratio), text)

    def test_read_back(self):
        source = random.Random(42)
        for _ in range(300):
            number = Fraction(source.randint(-10 ** 40, 10 ** 40), source.randint(1, 10 ** source.randint(0, 40)))
            text = called(self, ratio_text, in_other_terms(source, pair(number)))
            self.assertEqual(text, str(number))
            self.assertEqual(ratio_of(text), pair(number))

    def test_4000_digits(self):
        most = 10 ** 4000 - 1
        self.assertEqual(ratio_text(most), "9" * 4000)
        self.assertEqual(ratio_text(-most), "-" + "9" * 4000)
        self.assertEqual(ratio_text((1, most)), "1/" + "9" * 4000)
        self.assertEqual(ratio_text((7 * most * 10 ** 900, 7 * 10 ** 900)), "9" * 4000)
        self.assertEqual(ratio_of(ratio_text((most, most - 1))), (most, most - 1))

    def test_too_long(self):
        for many in (4001, 4064, 4065, 4300, 4301, 5800):
            least = 10 ** (many - 1)
            for number in (least, least + 1, -least, 10 * least - 1):
                raised(self, TooLarge, ("digits", many, 4000), ratio_text, number)
                raised(self, TooLarge, ("digits", many, 4000), ratio_text, (6 * number, 6))
            raised(self, TooLarge, ("digits", many, 4000), ratio_text, (1, least))
            raised(self, TooLarge, ("digits", many, 4000), ratio_text, (-least, 10 ** 4000 + 7))
            raised(self, TooLarge, ("digits", many + 3, 4000), ratio_text, (least, 1000 * least + 1))

    def test_no_ratio(self):
        for value in NO_RATIOS:
            raised(self, BadNumber, ("ratio", value), ratio_text, value)


class RootOf(unittest.TestCase):
    def test_powers_and_their_neighbours(self):
        source = random.Random(43)
        for k in range(1, 61):
            for _ in range(4):
                digits = source.randint(1, min(20, 399 // k))
                base = Fraction(source.randint(0, 10 ** digits), source.randint(1, 10 ** digits))
                top, bottom = base.numerator ** k, base.denominator ** k
                self.assertEqual(shown(called(self, root_of, in_other_terms(source, (top, bottom)), k)),
                                 shown(pair(base)))
                for near in ((top + 1, bottom), (top - 1, bottom), (top, bottom + 1), (top, bottom - 1)):
                    if near[0] >= 0 and near[1] > 0:
                        self.check_neighbour(in_other_terms(source, near), near, k)

    def check_neighbour(self, given, near, k):
        found = called(self, root_of, given, k)
        if found is None:
            # Only 0, 1 and first powers have a neighbour that is such a power again.
            shared = gcd(*near)
            self.assertFalse(k == 1 or (near[0] in (0, near[1])) or (shared == 1 and near == (1, 1)))
        else:
            self.assertTrue(is_lowest(found))
            self.assertEqual(Fraction(*found) ** k, Fraction(*near))

    def test_all_small_ones(self):
        for k in range(1, 8):
            powers = {n ** k: n for n in range(0, 200)}
            for top in range(0, 40):
                for bottom in range(1, 40):
                    number = Fraction(top, bottom)
                    root = (powers.get(number.numerator), powers.get(number.denominator))
                    self.assertEqual(root_of((top, bottom), k), None if None in root else root)

    def test_edges(self):
        for k in (1, 2, 3, 59, 60):
            for zero in (0, (0, 1), (0, 7)):
                self.assertEqual(root_of(zero, k), (0, 1))
            for one in (1, (1, 1), (5, 5)):
                self.assertEqual(root_of(one, k), (1, 1))
        self.assertIsNone(root_of(2, 2))
        self.assertIsNone(root_of((4, 3), 2))
        self.assertIsNone(root_of((3, 4), 2))
        self.assertEqual(root_of((8, 18), 2), (2, 3))
        self.assertEqual(root_of((10 ** 20 - 1) ** 19, 19), (10 ** 20 - 1, 1))

    def test_wrong_ratios_come_first(self):
        for value in NO_RATIOS + (-1, (-1, 2), (-4, 1)):
            for k in (2, 0, 61, True, "2"):
                raised(self, BadNumber, ("ratio", value), root_of, value, k)

    def test_wrong_roots(self):
        for k in NO_INTEGERS + (0, -1, 61, 1000):
            for ratio in (4, (1, 4), 0):
                raised(self, BadNumber, ("root", k), root_of, ratio, k)


if __name__ == "__main__":
    unittest.main()
