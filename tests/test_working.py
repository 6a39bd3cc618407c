"""Points [31] to [36]: working formulas out, with amounts and as quotients."""

import copy
import random
import unittest
from fractions import Fraction

from allscales.amounts import Amount
from allscales.errors import BadName, BadNumber, ByZero, HasIf, NoName, NotPower, Unlike
from allscales.formulas import Formulas
from allscales.quotients import Quotient, letter_of, number_of
from allscales.units import Units
from formula_model import UNITS, Met, Texts, Worker
from support import NO_TEXTS, marked, pair, raised, shown

NAMED = Units(UNITS)
ERRORS = {"Unlike": Unlike, "ByZero": ByZero, "NotPower": NotPower}


def metres(number, power=1):
    """An amount in metres."""
    return Amount((power, 0), number)


def plain(number):
    """An amount without unit."""
    return Amount((0, 0), number)


def value_of(line, given=(), names="abc"):
    """What a formula of one line is for some arguments."""
    names = names[:len(given)]
    head = f"x({', '.join(names)}) = " if given else "x = "
    return Formulas(NAMED, head + line).work("x", list(given))


class Work(unittest.TestCase):
    def same(self, found, due):
        self.assertEqual(shown(found), shown(due))

    def fails(self, error, told, given=(), more=(), name="x"):
        """Fails unless a formula raises the error at the place marked in the text, with more fields."""
        text, place = marked(told)
        raised(self, error, (place,) + more, Formulas(NAMED, text).work, name, list(given))
        raised(self, error, (place,) + more, Formulas(NAMED, text).work, name, tuple(given))

    def test_operations(self):
        for line, number in (("1+2*3", 7), ("(1+2)*3", 9), ("8/4/2", 1), ("8/(4/2)", 4), ("9-4-3", 2), ("9-(4-3)", 8),
                             ("-2^2", -4), ("(-2)^2", 4), ("2*-3", -6), ("-2*3", -6), ("2--3", 5),
                             ("-2^-1", Fraction(-1, 2)),
                             ("2^3", 8), ("0^0", 1), ("0.25*4", 1), ("007.50", Fraction(15, 2)),
                             ("6/4", Fraction(3, 2)),
                             ("1-2+3", 2), ("2/3*3", 2), ("2*3/3*2", 4), ("-(1+2)", -3), ("((2))", 2),
                             ("2^(4/2)", 4), ("2^(0/7)", 1), ("2^(-1)", Fraction(1, 2)), ("(2)^(3)", 8),
                             ("1/3", Fraction(1, 3))):
            self.same(value_of(line), plain(pair(number)))

    def test_units(self):
        self.same(value_of("2 [km] / 4 [h]"), Amount((1, -1), (5, 36)))
        self.same(value_of("2 [km] + 3[m]"), metres(2003))
        self.same(value_of("2 [1]"), plain(2))
        self.same(value_of("3[none]"), plain(7))
        self.same(value_of("0.5 [km^2 h^-1]"), Amount((2, -1), pair(Fraction(10 ** 6, 7200))))
        self.same(value_of("(2[m])^-3"), Amount((-3, 0), (1, 8)))
        self.same(value_of("-0[m]"), metres(0))
        self.same(value_of("(5[m])^0"), plain(1))
        self.same(value_of("a-a", [metres(3)]), metres(0))
        self.same(value_of("a", [metres((6, 4))]), metres((3, 2)))

    def test_powers(self):
        self.same(value_of("a^(1/2)", [metres(4, 2)]), metres(2))
        self.same(value_of("a^(-3/2)", [metres((4, 9), -4)]), Amount((6, 0), (27, 8)))
        self.same(value_of("a^(2/4)", [metres(4, 2)]), metres(2))
        self.same(value_of("a^(2/3)", [plain(8)]), plain(4))
        self.same(value_of("a^(1/3)", [metres(0, 3)]), metres(0))
        self.same(value_of("a^(20/19)", [plain(2 ** 19)]), plain(2 ** 20))
        self.same(value_of("a^(1/2)", [plain(1)]), plain(1))
        for line, given in (("a^(1/2)", plain(2)), ("a^(1/2)", metres(4)), ("a^(1/2)", plain(-4)),
                            ("a^(1/3)", plain(-8)),
                            ("a^(1/3)", plain(-1)), ("a^(2/3)", plain(-1)), ("a^(-1/3)", metres((-1, 8), 3)),
                            ("a^(2/3)", plain(-8)), ("a^(1/2)", metres(0)), ("a^(3/2)", metres(4)),
                            ("a^(-1/2)", metres(4)),
                            ("a^(-1/2)", plain(-4)), ("a^(2/6)", metres(8, 2)), ("a^(1/2)", plain((4, 3)))):
            self.fails(NotPower, "x(a) = a ~" + line[1:], [given])
        for line in ("a^-1", "a^(-1/2)", "a^(-4/2)", "a^(-3)"):
            self.fails(ByZero, "x(a) = a ~" + line[1:], [metres(0)])

    def test_ifs(self):
        text = "x(a, b) = if a < b then 1/(b-a) else if b < a then a^(1/2) else 2[m]"
        formulas = Formulas(NAMED, text)
        self.same(formulas.work("x", [metres(1), metres(3)]), Amount((-1, 0), (1, 2)))
        self.same(formulas.work("x", [plain(9), plain(3)]), plain(3))
        self.same(formulas.work("x", [plain(3), plain(3)]), metres(2))
        self.fails(NotPower, text.replace("^", "~^"), [metres(9), metres(3)])
        self.fails(Unlike, text.replace("a < b", "a ~< b"), [metres(9), plain(3)], ((1, 0), (0, 0)))
        self.same(value_of("if 1 < 2 then 3 else 1/0"), plain(3))
        self.same(value_of("if 2 < 1 then 1/0 else 3[m]"), metres(3))
        self.same(value_of("(if 2 < 1 then 1 else 3) + (if -2 < -1 then 10 else 1/0)"), plain(13))
        self.same(value_of("if 1 < 1 then 3 else 4"), plain(4))
        self.same(value_of("if (if 1 < 2 then 3 else 4) < 4 then if 2 < 1 then 5 else 6 else 7"), plain(6))

    def test_places(self):
        unlike = ((1, 0), (0, 0))
        self.fails(Unlike, "\nx(a) = a  ~+  2[s]", [metres(1)], ((1, 0), (0, 1)))
        self.fails(Unlike, "x(a) = a ~- 2", [metres(0)], unlike)
        self.fails(Unlike, "x(a) = 1 + (a ~- 2)*a", [metres(0)], unlike)
        self.fails(ByZero, "x(a) = a~/(a-a)", [metres(5)])
        self.fails(Unlike, "x(~a[m], b[s]) = a", [plain(5), plain(1)], unlike)
        self.fails(Unlike, "x(a[m], ~b[s]) = 1/0", [metres(5), plain(1)], ((0, 1), (0, 0)))
        self.fails(Unlike, "x(~a[km]) = a", [metres(5, 2)], ((1, 0), (2, 0)))
        self.fails(Unlike, "\n ~x(a)[h] = a", [metres(5)], ((0, 1), (1, 0)))
        self.fails(ByZero, "x(a)[h] = a~/0", [metres(5)])
        self.fails(Unlike, "x(a) = if a ~< 1 then 1/0 else 1", [metres(5)], unlike)

    def test_calls(self):
        text = "k = 2[km]\nf(a[m], b)[m^2] = a*b\ng(x)[m^3] = f(x, f(k, x))\nh(y) = g(y)+g(k)\n"
        formulas = Formulas(NAMED, text)
        self.same(formulas.work("k", ()), metres(2000))
        self.same(formulas.work("f", (metres(2), metres(3))), metres(6, 2))
        result = text.replace("f(a", "~f(a")
        self.fails(Unlike, result, [metres(3)], ((2, 0), (3, 0)), "g")
        self.fails(Unlike, result, [metres(3)], ((2, 0), (3, 0)), "h")
        self.fails(Unlike, result, [Amount((0, 1), 3)], ((2, 0), (1, 1)), "g")
        self.fails(Unlike, text.replace("(a", "(~a"), [Amount((0, 1), 3), metres(3)], ((1, 0), (0, 1)), "f")
        text = "f(~a[m], b)[m^2] = a*b\nx(y) = f(y, y) / f(y*y, 1/0)"
        self.fails(ByZero, text.replace("~", "").replace("1/", "1~/"), [metres(1)])
        self.fails(Unlike, text, [plain(1)], ((1, 0), (0, 0)))
        self.fails(Unlike, text.replace("1/0", "1[m]"), [metres(1)], ((1, 0), (2, 0)))

    def test_first_error_from_the_left(self):
        text = "f(a) = a^(1/2)\nx(a) = (a + 1) * (1/0) + 2^(1/2)"
        self.fails(Unlike, text.replace("+ 1", "~+ 1"), [metres(1)], ((1, 0), (0, 0)))
        self.fails(ByZero, text.replace("/0", "~/0"), [plain(1)])
        self.fails(NotPower, "f(a) = a~^(1/2)\nx = f(2)*(1/0)")
        self.fails(ByZero, "f(a) = a^(1/2)\nx = f(1~/0)*2^(1/2)")
        self.fails(ByZero, "x = if 1 < 1~/0 then 2^(1/2) else 1")
        self.fails(NotPower, "x = if 2~^(1/2) < 1/0 then 1 else 1")

    def test_random(self):
        source = random.Random(321)
        met = {"Unlike": 0, "ByZero": 0, "NotPower": 0, None: 0}
        for _ in range(1500):
            texts = Texts(source, NAMED, words=source.choice((("m", "s", "km"), ("1", "none"), ("m",), ("m", "1"))))
            formulas = Formulas(NAMED, texts.text)
            line = texts.lines[-1]
            given = []
            for _, words in line.letters:
                exponents = NAMED.exponents_of(words or source.choice(("m", "1", "m", "s", "m^2")))
                if source.random() < 0.1:
                    exponents = (source.randint(-2, 2), source.randint(-2, 2))
                given.append((exponents, Fraction(source.choice((0, 1, 1, 4, 8, 9, -1, -4)),
                                                  source.choice((1, 1, 4, 27)))))
            arguments = [Amount(exponents, pair(number)) for exponents, number in given]
            before = copy.deepcopy(arguments)
            try:
                exponents, number = Worker(texts).work(line.name, given)
            except Met as error:
                kind = error.fields[0]
                raised(self, ERRORS[kind], error.fields[1:], formulas.work, line.name, arguments)
            else:
                kind = None
                due = Amount(exponents, pair(number))
                self.same(formulas.work(line.name, arguments), due)
                self.same(formulas.work(line.name, tuple(arguments)), due)
            self.same(arguments, before)
            met[kind] += 1
        self.assertGreater(min(met.values()), 40, met)

    def test_wrong_names_and_numbers(self):
        formulas = Formulas(NAMED, "k = 2\nf(a, b) = a")
        for name in NO_TEXTS:
            raised(self, BadName, (name,), formulas.work, name, [])
            raised(self, BadName, (name,), formulas.quotient, name)
        for name in ("", "x", "F", "a"):
            raised(self, NoName, (name,), formulas.work, name, [1, 2, 3])
            raised(self, NoName, (name,), formulas.quotient, name)
        one = plain(1)
        for name, given in (("k", [one]), ("f", []), ("f", [one]), ("f", (one, one, one)), ("k", (one,) * 5)):
            raised(self, BadNumber, ("arguments", len(given)), formulas.work, name, given)


class Quotients(unittest.TestCase):
    def same(self, found, due):
        self.assertEqual(shown(found), shown(due))

    def test_plain(self):
        formulas = Formulas(NAMED,
                            "k = 2[km]\nf(a[m], b)[s] = (a+b)/(a-b)\ng(x, y, z) = -f(y, k)^2*z^-1 - 0.5\nh(a)=a*0^0")
        a, b = letter_of(2, 0), letter_of(2, 1)
        self.same(formulas.quotient("f"), (a + b).over(a - b))
        self.same(formulas.quotient("k"), number_of(0, 2000))
        y, z, k = letter_of(3, 1), letter_of(3, 2), number_of(3, 2000)
        due = (-((y + k).over(y - k).power(2))) * z.power(-1) - number_of(3, (1, 2))
        self.same(formulas.quotient("g"), due)
        self.same(formulas.quotient("h"), letter_of(1, 0) * number_of(1, 0).power(0))
        self.same(formulas.quotient("g"), due)

    def test_it_is_not_in_lowest_terms(self):
        formulas = Formulas(NAMED, "f(a) = (a^2-1)/(a-1)\ng(a) = (a+1)\nh(a, b) = 1/a + 1/b - 1/a")
        found = formulas.quotient("f")
        self.assertEqual(len(found.bottom.terms), 2)
        self.assertFalse(found == formulas.quotient("g"))
        a, b, one = letter_of(2, 0), letter_of(2, 1), number_of(2, 1)
        self.same(formulas.quotient("h"), one.over(a) + one.over(b) - one.over(a))

    def test_has_if(self):
        text = ("p(a) = a\nq(a) = if a < 1 then 1 else 2\nr(a) = (if a < 1 then 1 else 2)/0\ns(a) = r(a) + q(a)\n"
                "t(a) = p(s(a))^(1/2)\nu(a) = p(a)/0\nv(a) = if p(a)<s(a) then 1 else 2\nw = q(1)")
        formulas = Formulas(NAMED, text)
        for name, other in (("q", "q"), ("r", "r"), ("s", "q"), ("t", "q"), ("v", "q"), ("w", "q")):
            raised(self, HasIf, (other,), formulas.quotient, name)
        raised(self, ByZero, ((6, 12),), formulas.quotient, "u")
        self.same(formulas.quotient("p"), letter_of(1, 0))

    def test_errors_from_the_left(self):
        for text, error in (
                ("x(a) = a~^(1/2)", NotPower), ("x(a) = 0~^(-1/2)", NotPower), ("x(a) = 4~^(1/2)", NotPower),
                ("x(a) = 1~^(2/6)", NotPower), ("x(a) = a~/(a-a)", ByZero), ("x(a) = (a-a)~^-1", ByZero),
                ("x = 0~^(-4/2)", ByZero), ("x(a) = 1~/0*a^(1/2)", ByZero), ("x(a) = a~^(1/2)/0", NotPower),
                ("x(a) = (a~/0)^(1/2)", ByZero), ("f(a)=1~/a\nx(a) = f(0*a)", ByZero),
                ("f(a)=1~/a\nx(a) = f(f(a)-1/a)", ByZero), ("x(a) = (a+1)^2~/((a+1)*(a+1)-a*a-2*a-1)", ByZero)):
            plain_text, place = marked(text)
            raised(self, error, (place,), Formulas(NAMED, plain_text).quotient, "x")
        self.same(Formulas(NAMED, "x(a) = a^(4/2)").quotient("x"), letter_of(1, 0).power(2))
        self.same(Formulas(NAMED, "x(a) = (a-a)^(0/2)").quotient("x"), number_of(1, 1))

    def test_random(self):
        source = random.Random(351)
        done = 0
        while done < 400:
            texts = Texts(source, NAMED, ifs=False, roots=source.random() < 0.1, size=5)
            formulas = Formulas(NAMED, texts.text)
            line = texts.lines[-1]
            size = len(line.letters)
            try:
                due = Model(texts, size).work(line.name, [letter_of(size, j) for j in range(size)])
            except Met as error:
                raised(self, ERRORS[error.fields[0]], error.fields[1:], formulas.quotient, line.name)
            else:
                done += 1
                self.assertIs(formulas.quotient(line.name).__class__, Quotient)
                self.same(formulas.quotient(line.name), due)


class Model(Worker):
    """Works random formulas out with quotients in some letters."""

    def __init__(self, texts, size):
        Worker.__init__(self, texts)
        self.size = size

    def work(self, name, given):
        line = self.lines[name]
        return self.quotient(line, line.tree, given)

    def quotient(self, line, node, given):
        place = (line.number, node.place.column)
        if node.kind == "number":
            number = Fraction(node.fact[0]) * Fraction(*self.units.size_of(node.fact[1] or "1"))
            return number_of(self.size, pair(number))
        if node.kind == "letter":
            return given[node.fact[0]]
        values = [self.quotient(line, part, given) for part in node.parts]
        if node.kind == "call":
            return self.work(node.fact, values)
        if node.kind == "neg":
            return -values[0]
        if node.kind == "power":
            if node.fact[1].denominator > 1:
                raise Met("NotPower", place)
            if node.fact[1] < 0 and not values[0].top.terms:
                raise Met("ByZero", place)
            return values[0].power(int(node.fact[1]))
        if node.kind == "/" and not values[1].top.terms:
            raise Met("ByZero", place)
        one, other = values
        return {"+": one.__add__, "-": one.__sub__, "*": one.__mul__, "/": one.over}[node.kind](other)


class Limits(unittest.TestCase):
    def test_ten_thousand_operations(self):
        lines = ["f0(a) = " + "+".join(["a"] * 101)]
        lines += [f"f{k}(a) = " + "+".join([f"f{k - 1}(a)"] * 10) for k in (1, 2)]
        formulas = Formulas(NAMED, "\n".join(lines))
        self.assertEqual(formulas.work("f2", [metres(3)]), metres(3 * 10100))
        self.assertEqual(formulas.quotient("f2"), letter_of(1, 0) * number_of(1, 10100))

    def test_calls_behind_calls(self):
        lines = ["f0(a[m]) = " + "(" * 50 + "a" + ")" * 50]
        lines += [f"f{k}(a[m])[m] = " + "(" * 48 + f"1[m]+f{k - 1}(a)" + ")" * 48 for k in range(1, 60)]
        formulas = Formulas(NAMED, "\n".join(lines))
        self.assertEqual(formulas.work("f59", [metres(3)]), metres(62))
        self.assertEqual(formulas.quotient("f59"), letter_of(1, 0) + number_of(1, 59))
        text = "f0(a) = 1/a\n" + "\n".join([f"f{k}(a) = f{k - 1}(" + "(" * 40 + "a" + ")" * 40 + ")" for k in range(1, 60)])
        raised(self, ByZero, ((1, 10),), Formulas(NAMED, text).work, "f59", [plain(0)])

    def test_large_numbers(self):
        big = Fraction(10 ** 1990 + 7, 10 ** 1990 + 9)
        found = value_of("(a+b)*a - b/a", [plain(pair(big)), plain(pair(1 / big))])
        self.assertEqual(shown(found), shown(plain(pair((big + 1 / big) * big - 1 / big ** 2))))
        root = 10 ** 1900 + 3
        self.assertEqual(value_of("a^(1/2)", [metres(root ** 2, 2)]), metres(root))
        self.assertEqual(value_of("a^(3/2)", [metres((10 ** 600 + 1) ** 2, 2)]), metres((10 ** 600 + 1) ** 3, 3))
        raised(self, NotPower, ((1, 9),), Formulas(NAMED, "x(a) = a^(1/2)").work, "x", [metres(root ** 2 + 1, 2)])
        # Terms of unlike bottoms: a sum with a long top and a long bottom.
        line = "+".join([f"1/{k}" for k in range(2, 180)])
        self.assertEqual(value_of(line), plain(pair(sum([Fraction(1, k) for k in range(2, 180)]))))
        self.assertEqual(value_of("2^20*" * 190 + "1"), plain(2 ** 3800))

    def test_long_numbers(self):
        digits = "".join([str(k % 10) for k in range(1, 990)])
        self.assertEqual(value_of(digits), plain(int(digits)))
        self.assertEqual(value_of(digits[:900] + "." + digits[900:]), plain(pair(Fraction(int(digits), 10 ** 89))))
        self.assertEqual(value_of(digits * 4 + "*1[km]"), metres(1000 * int(digits * 4)))
        self.assertEqual(value_of("0." + "0" * 3000 + "5*2"), plain((1, 10 ** 3000)))


if __name__ == "__main__":
    unittest.main()
