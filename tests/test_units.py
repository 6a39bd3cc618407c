"""Points [17], [18] and [20]: texts of units."""

import random
import unittest
from fractions import Fraction

from allscales.errors import BadNumber, BadText, NoUnit
from allscales.units import Units
from support import NO_INTEGERS, NO_TEXTS, called, fraction, pair, raised, shown

PLAIN = ("base m s kg\nunit km 1000 m\nunit h 3600 s\nunit n 1 kg m s^-2\nscale c kg 1/2 -273/2\nunit v 5/18 km h^-1\n"
         "scale d c -2 0\nunit a2 7/3 1")


def some_name(source, taken):
    """A random new name."""
    while True:
        name = source.choice("abcz") + "".join([source.choice("az09k") for _ in range(source.choice((0, 1, 2, 11)))])
        if name not in taken:
            return name


class Model:
    """A random text of units, and what is true of it by the plain way."""

    def __init__(self, source):
        self.names, self.base, self.measures, self.scales = [], [], {}, {}
        for _ in range(source.randint(1, 6)):
            self.base.append(self.new(source))
        for at, name in enumerate(self.base):
            self.measures[name] = (tuple([int(at == other) for other in range(len(self.base))]), Fraction(1))
        self.lines = ["base " + " ".join(self.base)]
        for _ in range(source.randint(0, 6)):
            ratio = Fraction(source.randint(1, 30), source.randint(1, 9))
            text = source.choice((str(ratio), f"{2 * ratio.numerator}/0{2 * ratio.denominator}", f"0{ratio}"))
            if source.random() < 0.7:
                words, exponents, size = self.words(source)
                name = self.new(source)
                self.measures[name] = (exponents, ratio * size)
                self.lines.append(f"unit {name} {text} {words}")
            else:
                other = source.choice(self.names)
                name = self.new(source)
                self.scales[name] = other
                self.lines.append(f"scale {name} {other} {source.choice(('', '-'))}{text} {source.randint(-9, 9)}")
        self.text = "\n".join(self.lines)

    def new(self, source):
        name = some_name(source, self.names)
        self.names.append(name)
        return name

    def words(self, source, most=3):
        """(words, exponents, size) of random UNITWORDS."""
        exponents, size = (0,) * len(self.base), Fraction(1)
        if source.random() < 0.15:
            return ("1", exponents, size)
        words = []
        for _ in range(source.randint(1, 4)):
            name = source.choice(list(self.measures))
            power = source.randint(-most, most)
            words.append(source.choice((name, f"{name}^1")) if power == 1 else f"{name}^{power}")
            exponents = tuple([a + power * b for a, b in zip(exponents, self.measures[name][0])])
            size *= self.measures[name][1] ** power
        return (" ".join(words), exponents, size)


class Right(unittest.TestCase):
    def test_plain(self):
        units = Units(PLAIN)
        self.assertEqual(shown(units.text), shown(PLAIN))
        self.assertEqual(shown(units.base), shown(("m", "s", "kg")))
        self.assertEqual(shown(units.names), shown(("m", "s", "kg", "km", "h", "n", "c", "v", "d", "a2")))
        self.assertEqual(shown(called(self, units.exponents_of, "n^2 m")), shown((3, -4, 2)))
        self.assertEqual(shown(called(self, units.size_of, "v")), shown((25, 324)))
        self.assertEqual(units.size_of("km^2 h^-1 a2"), pair(Fraction(10 ** 6 * 7, 3600 * 3)))
        self.assertEqual(units.exponents_of("a2^5"), (0, 0, 0))

    def test_random_texts(self):
        source = random.Random(171)
        for _ in range(300):
            model = Model(source)
            for text in (model.text, model.text + "\n"):
                units = called(self, Units, text)
                self.assertEqual(shown(units.text), shown(text))
                self.assertEqual(shown(units.base), shown(tuple(model.base)))
                self.assertEqual(shown(units.names), shown(tuple(model.names)))
            for name, (exponents, size) in model.measures.items():
                self.assertEqual(shown(units.exponents_of(name)), shown(exponents))
                self.assertEqual(shown(units.size_of(name)), shown(pair(size)))
            for _ in range(4):
                words, exponents, size = model.words(source, source.choice((1, 3, 9)))
                self.assertEqual(shown(called(self, units.exponents_of, words)), shown(exponents))
                self.assertEqual(shown(called(self, units.size_of, words)), shown(pair(size)))
                written = called(self, units.written, exponents)
                if all([abs(power) <= 99 for power in exponents]):
                    self.assertEqual(units.exponents_of(written), exponents)
                    self.assertEqual(units.size_of(written), (1, 1))

    def test_names(self):
        for name in ("a", "z9", "a23456789012", "unit", "scale", "base", "zzzzzzzzzzzz"):
            self.assertEqual(Units("base " + name).names, (name,))
            self.assertEqual(Units(f"base q\nunit {name} 2 q").names, ("q", name))
            self.assertEqual(Units(f"base q\nscale {name} q 2 2\n").names, ("q", name))

    def test_powers(self):
        units = Units("base m\nunit d 10 m\nunit t 3/2 1")
        for power in range(-99, 100):
            self.assertEqual(units.exponents_of(f"d^{power}"), (power,))
            self.assertEqual(units.size_of(f"d^{power}"), pair(Fraction(10) ** power))
            self.assertEqual(units.size_of(f"t^{power}"), pair(Fraction(3, 2) ** power))
            self.assertEqual(Units(f"base m\nunit d 10 m^{power} m").exponents_of("d"), (power + 1,))
        self.assertEqual(units.exponents_of("m^99 d^99 m d"), (200,))
        self.assertEqual(units.size_of("d^99 d^-99 m^0"), (1, 1))

    def test_ratios(self):
        for word, size in (("007", (7, 1)), ("6/4", (3, 2)), ("0001/0002", (1, 2)), ("9" * 4000, (10 ** 4000 - 1, 1)),
                           ("1/" + "0" * 3999 + "3", (1, 3))):
            self.assertEqual(Units(f"base m\nunit d {word} m").size_of("d"), size)
        for words in ("-1/2 0", "-3 -0", "1 -5/7", "4/2 0/3"):
            self.assertEqual(Units(f"base m\nscale d m {words}").names, ("m", "d"))

    def test_scales_rest_on_all_earlier_names(self):
        units = Units("base m\nunit d 2 m\nscale e m 1 1\nscale f d 1 1\nscale g e 1 1\nscale h g 2 3")
        self.assertEqual(units.names, ("m", "d", "e", "f", "g", "h"))

    def test_large_sizes(self):
        units = Units("base m\nunit a " + "7" * 2000 + " m\nunit b 1/" + "3" * 2000 + " a")
        self.assertEqual(units.size_of("a^40 a^-40 b"), pair(Fraction(int("7" * 2000), int("3" * 2000))))

    def test_written(self):
        units = Units("base m s kg")
        for exponents, text in (((0, 0, 0), "1"), ((1, 0, 0), "m"), ((0, -1, 2), "s^-1 kg^2"), ((1, 1, 1), "m s kg"),
                                ((-1, 0, 1), "m^-1 kg"), ((120, 0, -10 ** 30), f"m^120 kg^-{10 ** 30}")):
            self.assertEqual(called(self, units.written, exponents), text)

    def test_wrong_exponents(self):
        units = Units("base m s\nunit q 1 m")
        wrong = [(), (1,), (1, 2, 3), [1, 2], None, 5, "12", {1: 2, 2: 3}]
        wrong += [(1, item) for item in NO_INTEGERS] + [(item, 1) for item in NO_INTEGERS]
        for exponents in wrong:
            raised(self, BadNumber, ("exponents", exponents), units.written, exponents)


class WrongTexts(unittest.TestCase):
    def wrong(self, line, column, text):
        raised(self, BadText, (line, column), Units, text)
        raised(self, BadText, (line, column), Units, text + "\nwhat is this")

    def test_no_text(self):
        for value in NO_TEXTS:
            raised(self, BadText, (0, 0), Units, value)

    def test_no_lines(self):
        raised(self, BadText, (1, 1), Units, "")
        raised(self, BadText, (1, 1), Units, "\n")
        raised(self, BadText, (1, 1), Units, "\nbase m")

    def test_base_line(self):
        for column, text in ((1, "Base m"), (1, " base m"), (1, "bas m"), (1, "unit m 1 1"), (1, "base\tm"), (2, "base"),
                             (2, "base "), (2, "base  m"), (3, "base m "), (3, "base m m"), (4, "base m s m"),
                             (3, "base m S"), (2, "base 1m"), (2, "base a234567890123"), (3, "base m s_"),
                             (3, "base m \u00e9"), (3, "base m s^2"), (8, "base a b c d e f g"),
                             (8, "base a b c d e f "), (8, "base a b c d e f a"), (7, "base a b c d e e g"),
                             (2, "base m\r"), (2, "base 1"), (3, "base m a\u0661")):
            self.wrong(1, column, text)

    def test_first_word(self):
        for line in (" ", "Unit k 2 m", "base q", "units k 2 m", "unit\tk 2 m", "m", " unit k 2 m", "1"):
            self.wrong(2, 1, "base m\n" + line)
        raised(self, BadText, (2, 1), Units, "base m\n\n")
        raised(self, BadText, (3, 1), Units, "base m\nunit k 2 m\n\n")
        raised(self, BadText, (2, 1), Units, "base m\n\nunit k 2 m")

    def test_unit_lines(self):
        for column, line in (
                (2, "unit"), (2, "unit "), (2, "unit K 2 m"), (2, "unit m 2 m"), (2, "unit e 2 m"), (2, "unit d 2 m"),
                (2, "unit 1 2 m"), (2, "unit k^2 2 m"), (2, "unit abcdefghijklm 2 m"), (2, "unit  k 2 m"),
                (3, "unit k"), (3, "unit k "), (3, "unit k 0 m"), (3, "unit k -1 m"), (3, "unit k 0/5 m"),
                (3, "unit k 1/0 m"), (3, "unit k -0 m"), (3, "unit k x m"), (3, "unit k +1 m"), (3, "unit k 1.5 m"),
                (3, "unit k m"), (3, "unit k 1/" + "0" * 4000 + "1 m"), (3, "unit k 1/" + "7" * 4001 + " m"),
                (3, "unit k " + "7" * 4001 + " m"), (3, "unit k -" + "7" * 4001 + " m"),
                (4, "unit k 2"), (4, "unit k 2 "), (4, "unit k 2 e"), (4, "unit k 2 k"), (4, "unit k 2 q"),
                (4, "unit k 2 M"), (4, "unit k 2 2"), (5, "unit k 2 1 m"), (5, "unit k 2 1 1"), (5, "unit k 2 m 1"),
                (5, "unit k 2 m "), (5, "unit k 2 1 "), (5, "unit k 2 m  m"), (6, "unit k 2 m d f"),
                (6, "unit k 2 m d e^2"), (5, "unit k 2 m q 1 Q"), (4, "unit k 2 m\r")):
            self.wrong(5, column, "base m s\nunit d 3/2 m s\nscale e m 1 0\nscale e2 e 1 0\n" + line)

    def test_powers(self):
        for power in ("100", "-100", "01", "-01", "00", "-0", "-00", "+1", "", "-", "1.", "m", "1^1", "^1", "--1", "1-",
                      "\u0662", "1 ", "099", "1/2"):
            column = 4 if power != "1 " else 5
            self.wrong(2, column, f"base m\nunit k 2 m^{power}")
            raised(self, BadText, (1, column - 3), Units("base m").exponents_of, f"m^{power}")

    def test_scale_lines(self):
        for column, line in (
                (2, "scale"), (2, "scale "), (2, "scale m d 1 0"), (2, "scale d m 1 0"), (2, "scale e m 1 0"),
                (2, "scale K m 1 0"), (3, "scale k"), (3, "scale k "), (3, "scale k k 1 0"), (3, "scale k q 1 0"),
                (3, "scale k m^1 1 0"), (3, "scale k 1 1 0"), (4, "scale k m"), (4, "scale k m "),
                (4, "scale k m 0 0"), (4, "scale k m -0/7 0"), (4, "scale k m x 0"), (4, "scale k m 1/0 0"),
                (4, "scale k m " + "1" * 4001 + " 0"), (4, "scale k m s 1 0"), (5, "scale k m 1"), (5, "scale k m 1 "),
                (5, "scale k m 1 x"), (5, "scale k m 1 1/0"), (5, "scale k m 1 1/" + "1" * 4001), (5, "scale k e 1 m"),
                (6, "scale k m 1 0 "), (6, "scale k m 1 0 m"), (6, "scale k e -1/2 0 1")):
            self.wrong(4, column, "base m s\nunit d 3/2 m s\nscale e m 1 0\n" + line)

    def test_names_of_later_lines(self):
        self.wrong(2, 4, "base m\nunit k 2 j\nunit j 2 m")
        self.wrong(2, 3, "base m\nscale k j 2 0\nscale j m 2 0")
        self.wrong(3, 2, "base m\nunit j 2 m\nunit j 2 m")

    def test_wrong_words_at_random(self):
        source = random.Random(172)
        for _ in range(300):
            model = Model(source)
            at = source.randrange(len(model.lines))
            words = model.lines[at].split(" ")
            column = source.randrange(len(words))
            words[column] = source.choice(("", "A", "m-", "1//2", "\u00e9", "x" * 13, "^", "a^"))
            lines = model.lines[:at] + [" ".join(words)] + model.lines[at + 1:]
            self.wrong(at + 1, column + 1, "\n".join(lines))

    def test_a_missing_word_at_random(self):
        source = random.Random(173)
        for _ in range(200):
            model = Model(source)
            at = source.randrange(len(model.lines))
            words = model.lines[at].split(" ")
            least = {"base": 2, "unit": 4, "scale": 5}[words[0]]
            many = source.randint(1, least - 1)
            lines = model.lines[:at] + [" ".join(words[:many])] + model.lines[at + 1:]
            self.wrong(at + 1, many + 1, "\n".join(lines))


class WrongWords(unittest.TestCase):
    def setUp(self):
        self.units = Units(PLAIN)

    def both(self, error, fields, words):
        raised(self, error, fields, self.units.exponents_of, words)
        raised(self, error, fields, self.units.size_of, words)

    def test_no_text(self):
        for value in NO_TEXTS:
            self.both(BadText, (0, 0), value)

    def test_wrong_words(self):
        for words, column in (("", 1), (" ", 1), ("m ", 2), (" m", 1), ("m  s", 2), ("1 m", 2), ("1 1", 2), ("1 ", 2),
                              ("1 x", 2), ("1 X", 2), ("1 x^2", 2), ("m 1", 2), ("m s 1 x", 3), ("M", 1), ("2", 1),
                              ("m^", 1), ("m^x", 1), ("m s^01", 2), ("m^-0", 1), ("1^2", 1), ("m\n", 1), ("m s\nx", 2),
                              ("m^100", 1), ("x^100", 1), ("abcdefghijklm", 1), ("m/s", 1), ("m\ts", 1), ("c^ x", 1)):
            self.both(BadText, (1, column), words)

    def test_no_units(self):
        for words, name in (("x", "x"), ("x^2", "x"), ("m x^-99", "x"), ("m s y X", "y"), ("c", "c"), ("d^3", "d"),
                            ("m c 1", "c"), ("abcdefghijkl", "abcdefghijkl"), ("y x", "y"), ("unit", "unit"),
                            ("m x^0", "x")):
            self.both(NoUnit, (name,), words)

    def test_first_wrong_word_decides(self):
        self.both(BadText, (1, 2), "m X x")
        self.both(NoUnit, ("x",), "m x X")
        self.both(BadText, (1, 2), "m 1 x")
        self.both(NoUnit, ("x",), "x 1")

    def test_sizes_are_fractions_in_lowest_terms(self):
        self.assertEqual(fraction(self.units.size_of("h^2 km^-1")), Fraction(3600 ** 2, 1000))


if __name__ == "__main__":
    unittest.main()
