"""Points [37] to [46]: units by text."""

import random
import unittest
from fractions import Fraction

from allscales.amounts import Amount
from allscales.errors import BadMatrix, BadName, ByZero, NoName, NotPower
from allscales.formulas import Formulas
from allscales.inference import (Clash, Demand, General, Mend, Missing, demands, general_units, least_clash, mends,
                                 missing,
                                 well_united)
from allscales.units import Units
from support import NO_INTEGERS, NO_RATIOS, NO_TEXTS, fraction, in_other_terms, is_lowest, marked, pair, raised, shown
from unit_model import MANY_BASES, MANY_WORDS, Demands, United, answer_of, told

PLAIN = Units("base m s\nunit km 1000 m\nunit v 1/2 m s^-1")


def texts_for(seed, many, **more):
    """Pairs of a random source and a random text of formulas over one to three base units."""
    source = random.Random(seed)
    for _ in range(many):
        width = source.choice((1, 1, 2, 2, 3))
        yield source, United(source, Units(MANY_BASES[width]), words=MANY_WORDS[width], **more)


def needs(texts, line):
    """The formulas that one needs, in the order of the text, and itself."""
    names = {line.name}
    for other in reversed(texts.lines):
        if other.name in names:
            names.update([part.fact for part in other.tree.all_parts() if part.kind == "call"])
    return [other for other in texts.lines if other.name in names]


def first_clash(texts, formulas, line, roots):
    """(line, Demands): the formula at which one clashes, or itself if it has units."""
    generals = {}
    for other in needs(texts, line):
        model = Demands(texts.units, other, generals, roots)
        rows = model.rows()
        if not all([model.answered(rows, place) for place in range(len(texts.units.base))]):
            break
        generals[other.name] = general_units(formulas, other.name, roots)
    return other, model


class Case(unittest.TestCase):
    def check_clash(self, found, line, model, texts, roots):
        """Fails unless a Clash is that of a formula, with weights that add up."""
        self.assertIs(found.__class__, Clash)
        self.assertEqual(list(found.__dict__), ["name", "base", "weights", "places"])
        self.assertEqual(found.name, line.name)
        self.assertIn(found.base, texts.units.base)
        rows = model.rows()
        self.assertIsInstance(found.weights, tuple)
        self.assertEqual(len(found.weights), len(rows))
        self.assertTrue(all([is_lowest(weight) for weight in found.weights]))
        weights = [fraction(weight) for weight in found.weights]
        self.assertEqual(shown(found.places), shown(tuple([place for (place, _, _),
                                                           weight in zip(rows, weights) if weight])))
        at = texts.units.base.index(found.base)
        total = sum([weight * right[at] for weight, (_, _, right) in zip(weights, rows)])
        for k in range(len(model.keys)):
            one = sum([weight * row[k] for weight, (_, row, _) in zip(weights, rows)])
            self.assertTrue(one == 0 if roots else one.denominator == 1)
        self.assertTrue(total != 0 if roots else total.denominator > 1)


class AllDemands(Case):
    def plain(self, text, *due, roots=False, name="x"):
        """Fails unless a formula has these demands: a text with the mark, the row, the exponents."""
        formulas = Formulas(PLAIN, text)
        places = []
        for words, row, exponents in due:
            clean, place = marked(words)
            self.assertEqual(clean, text)
            if roots:
                row, exponents = tuple([pair(item) for item in row]), tuple([pair(item) for item in exponents])
            places.append(Demand(place, row, exponents))
        self.assertEqual(shown(demands(formulas, name, roots)), shown(tuple(places)))
        self.assertEqual(shown(demands(formulas, name, roots=roots)), shown(tuple(places)))
        self.assertEqual(shown(demands(formulas, name=name, roots=roots)), shown(tuple(places)))
        if not roots:
            self.assertEqual(shown(demands(formulas, name)), shown(tuple(places)))

    def test_plain(self):
        self.plain("x(a, b) = a*b^2")
        self.plain("x = 2*3")
        self.plain("x(a[m]) = a", ("x(~a[m]) = a", (1,), (1, 0)))
        self.plain("x(a, b) = a + b", ("x(a, b) = a ~+ b", (1, -1), (0, 0)))
        self.plain("x(a, b) = a*2[s] - b/1[m]", ("x(a, b) = a*2[s] ~- b/1[m]", (1, -1), (-1, -1)))
        self.plain("x(a)[v] = -a^3*0[s]", ("~x(a)[v] = -a^3*0[s]", (3,), (1, -2)))
        self.plain("x(a) = if a < 2[m] then 3 else a^0", ("x(a) = ~if a < 2[m] then 3 else a^0", (0,), (0, 0)),
                   ("x(a) = if a ~< 2[m] then 3 else a^0", (1,), (1, 0)))
        self.plain("x(a) = a + 0", ("x(a) = a ~+ 0", (1,), (0, 0)))

    def test_powers(self):
        self.plain("x(a) = a^(1/2)*a^(-2/3)", ("x(a) = a~^(1/2)*a^(-2/3)", (-1, 2, 0), (0, 0)),
                   ("x(a) = a^(1/2)*a~^(-2/3)", (2, 0, 3), (0, 0)))
        self.plain("x(a)[m] = (a*2[s])^(3/2)", ("x(a)[m] = (a*2[s])~^(3/2)", (-3, 2), (0, 3)),
                   ("~x(a)[m] = (a*2[s])^(3/2)", (0, 1), (1, 0)))
        self.plain("x(a)[m] = (a*2[s])^(3/2)", ("~x(a)[m] = (a*2[s])^(3/2)", (Fraction(3, 2),), (1, Fraction(-3, 2))),
                   roots=True)
        self.plain("x(a) = (a^(1/2) + 1)^(1/3)", ("x(a) = (a~^(1/2) + 1)^(1/3)", (-1, 2, 0), (0, 0)),
                   ("x(a) = (a^(1/2) ~+ 1)^(1/3)", (0, 1, 0), (0, 0)),
                   ("x(a) = (a^(1/2) + 1)~^(1/3)", (0, -1, 3), (0, 0)))
        self.plain("x(a) = a^(4/2)")
        self.plain("x(a) = a^(0/2)")
        self.plain("x(a) = a^(1/2)", roots=True)

    def test_calls(self):
        text = "k = 2[m]\nf(a, b, c[s]) = a*b + k\nx(d) = f(d, f(2, d, d), k)"
        # The units of f are m, 1 and s of its parameters and m of the result, and (1, -1, 0) times anything.
        self.assertEqual(shown(general_units(Formulas(PLAIN, text), "f")),
                         shown(General(((0, 0), (1, 0), (0, 1), (1, 0)), ((1, -1, 0, 0),))))
        outer, inner = text.replace("= f(", "= ~f("), text.replace(" f(2", " ~f(2")
        self.plain(text, (outer, (1, -1, 0), (0, 0)), (outer, (0, 1, 0), (0, 0)), (outer, (0, 0, 0), (-1, 1)),
                   (inner, (0, 0, -1), (0, 0)), (inner, (1, 0, 1), (1, 0)), (inner, (1, 0, 0), (0, 1)))

    def test_roots_of_calls(self):
        text = "f(a, b) = a^2 + b^4\nx(c) = f(c, 1[s]) + 0"
        self.assertEqual(general_units(Formulas(PLAIN, text), "f").basis, ((2, 1, 4),))
        call, plus = text.replace(" f(", " ~f("), text.replace("+ 0", "~+ 0")
        self.plain(text, (call, (1, -2), (0, 0)), (call, (0, -1), (0, -1)), (plus, (0, 4), (0, 0)))
        half = Fraction(1, 2)
        self.assertEqual(general_units(Formulas(PLAIN, text), "f", True).basis, ((pair(1), pair(half), pair(2)),))
        self.plain(text, (call, (1, -1), (0, 0)), (call, (0, -half), (0, -1)), (plus, (0, 2), (0, 0)), roots=True)

    def test_random(self):
        for source, texts in texts_for(381, 250):
            formulas = Formulas(texts.units, texts.text)
            for line in texts.lines:
                for roots in (False, True):
                    at, model = first_clash(texts, formulas, line, roots)
                    found = demands(formulas, line.name, roots)
                    if at is not line:
                        self.check_clash(found, at, model, texts, roots)
                        continue
                    due = tuple([Demand(place, tuple([told(item, roots) for item in row]),
                                        tuple([told(item, roots) for item in right])) for place, row,
                                        right in model.rows()])
                    self.assertEqual(shown(found), shown(due))

    def test_needed_formula_clashes(self):
        text = "f(a) = a + a^2*1[m^3]\ng(a) = 1[m] + 1[s]\nh(a) = f(a) + g(a)\ni(a) = h(1) + 1[m] + 1"
        formulas = Formulas(PLAIN, text)
        for name in ("h", "i"):
            found = demands(formulas, name)
            self.assertEqual((found.__class__, found.name, found.places), (Clash, "g", ((2, 13),)))
        self.assertEqual(len(demands(formulas, "g")), 1)
        self.assertEqual(len(demands(formulas, "f")), 1)


class Units1(Case):
    def test_plain(self):
        for line, spots, basis in (
                ("x(a, b) = a*b", ((0, 0),) * 3, ((1, 0, 1), (0, 1, 1))), ("x = 2[m s]", ((1, 1),), ()),
                ("x(a[m], b) = a+b*b", None, None), ("x(a, b) = a^2+b^3", ((0, 0),) * 3, ((3, 2, 6),)),
                ("x(a, b)[m^6] = a^2+b^3", ((3, 0), (2, 0), (6, 0)), ()), ("x(a) = a^(1/2)", ((0, 0),) * 2, ((2, 1),)),
                ("x(a, b) = a*b^2 + 1[m^3]", ((1, 0), (1, 0), (3, 0)), ((2, -1, 0),)),
                ("x(a, b) = 1", ((0, 0),) * 3, ((1, 0, 0), (0, 1, 0))), ("x(a)[s] = a", ((0, 1),) * 2, ()),
                ("x(a) = (a*1[m])^(1/2)", ((1, 0), (1, 0)), ((2, 1),)), ("x(a) = a+a^2", ((0, 0),) * 2, ())):
            found = general_units(Formulas(PLAIN, line), "x")
            if spots is None:
                self.assertIs(found.__class__, Clash)
            else:
                self.assertEqual(shown(found), shown(General(spots, basis)))

    def test_plain_with_roots(self):
        for line, spots, basis in (
                ("x(a[m], b) = a+b*b", ((1, 0), (Fraction(1, 2), 0), (1, 0)), ()), ("x = 2[m s]", ((1, 1),), ()),
                ("x(a, b) = a^2+b^3", ((0, 0),) * 3, ((1, Fraction(2, 3), 2),)),
                ("x(a) = (a*1[m])^(1/2)", ((0, 0), (Fraction(1, 2), 0)), ((1, Fraction(1, 2)),)),
                ("x(a, b) = a*b^2 + 1[m^3]", ((0, 0), (Fraction(3, 2), 0), (3, 0)), ((1, Fraction(-1, 2), 0),))):
            due = General(tuple([tuple([pair(item) for item in row]) for row in spots]),
                          tuple([tuple([pair(item) for item in row]) for row in basis]))
            self.assertEqual(shown(general_units(Formulas(PLAIN, line), "x", True)), shown(due))

    def check_general(self, found, model, source, roots):
        self.assertIs(found.__class__, General)
        self.assertEqual(list(found.__dict__), ["spots", "basis"])
        self.assertTrue(model.united(found.spots))
        ahead = -1
        for k, row in enumerate(found.basis):
            numbers = [fraction(item) for item in row]
            at = [place for place, item in enumerate(numbers) if item != 0][0]
            self.assertGreater(at, ahead)
            ahead = at
            for spot in found.spots[at]:
                self.assertTrue(spot == (0, 1) if roots else 0 <= spot < row[at])
            for other in found.basis[:k]:
                self.assertTrue(other[at] == (0, 1) if roots else 0 <= other[at] < row[at])
            self.assertTrue(row[at] == (1, 1) if roots else row[at] > 0)
            moved = [tuple([told(fraction(item) + (number if place == 0 else 0), roots) for place,
                            item in enumerate(spot)])
                     for spot, number in zip(found.spots, numbers)]
            self.assertTrue(model.united(tuple(moved)))
        rank = len(found.basis)
        self.assertEqual(rank, self.rank_of_differences(model))

    def rank_of_differences(self, model):
        """How many independent differences of units there are."""
        rows = [row for _, row, _ in model.rows()] or [[0] * len(model.keys)]
        basis = answer_of(rows, [0] * len(rows), True).basis
        images = []
        for row in basis:
            values = dict(zip(model.keys, row))
            image = [values[("letter", k)] for k in range(len(model.line.letters))]
            images.append(image + [sum([many * values[key] for key, many in model.result.multiples.items()])])
        found = []
        for image in images:
            for other in found:
                at = [k for k, item in enumerate(other) if item][0]
                image = [a - image[at] / Fraction(other[at]) * b for a, b in zip(image, other)]
            if any(image):
                found.append(image)
        return len(found)

    def test_random(self):
        general = clashes = 0
        for source, texts in texts_for(391, 250):
            formulas = Formulas(texts.units, texts.text)
            for line in texts.lines:
                for roots in (False, True):
                    at, model = first_clash(texts, formulas, line, roots)
                    found = general_units(formulas, line.name, roots)
                    self.assertEqual(shown(found), shown(general_units(formulas, name=line.name, roots=roots)))
                    some = model.some_units(source)
                    if at is line and some is not None:
                        general += 1
                        self.check_general(found, model, source, roots)
                        self.assertIs(well_united(formulas, line.name, some, roots), True)
                        self.check_near(formulas, line, found, model, source, roots)
                    else:
                        clashes += 1
                        self.check_clash(found, at, model, texts, roots)
                        spots = ((told(Fraction(0), roots),) * len(texts.units.base),) * (len(line.letters) + 1)
                        self.assertIs(well_united(formulas, line.name, spots, roots), False)
        self.assertGreater(min(general, clashes), 200)

    def check_near(self, formulas, line, found, model, source, roots):
        """Tuples of exponents near the spot are units exactly if the demands have an answer with them."""
        for _ in range(3):
            near = []
            for spot in found.spots:
                near.append(tuple([fraction(item) + source.choice((0, 0, 0, 1, -1, 2) if not roots else
                                                                  (0, 0, 1, Fraction(1, 2))) for item in spot]))
            near = tuple([tuple([told(item, roots) for item in row]) for row in near])
            self.assertIs(well_united(formulas, line.name, near, roots), model.united(near))
            if roots:
                loose = tuple([tuple([in_other_terms(source, item) for item in row]) for row in near])
                self.assertIs(well_united(formulas, line.name, loose, True), model.united(near))

    def test_amounts_of_units_raise_nothing(self):
        worked = 0
        for source, texts in texts_for(411, 250):
            formulas = Formulas(texts.units, texts.text)
            for line in texts.lines:
                at, model = first_clash(texts, formulas, line, False)
                some = model.some_units(source)
                if at is not line or some is None:
                    continue
                for number in (1, 1, (4, 9), 64):
                    arguments = [Amount(exponents, number) for exponents in some[:-1]]
                    try:
                        found = formulas.work(line.name, arguments)
                    except (NotPower, ByZero):
                        continue
                    worked += 1
                    self.assertEqual(found.exponents, some[-1])
        self.assertGreater(worked, 600)

    def test_deep_calls(self):
        text = "\n".join(["f0(a, b) = a*b^2"] + [f"f{k}(a, b) = f{k - 1}(b, a) + f{k - 1}(a, b)" for k in range(1, 20)])
        formulas = Formulas(PLAIN, text)
        self.assertEqual(shown(general_units(formulas, "f19")), shown(General(((0, 0),) * 3, ((1, 1, 3),))))
        self.assertIsNone(least_clash(formulas, "f19"))


class WrongExponents(Case):
    def test_wrong_shapes(self):
        formulas = Formulas(PLAIN, "f(a, b) = a*b\nc(a, b) = a + 1[m] + 1\nk = 1")
        good = (1, 0)
        wrong = [None, 5, "abc", [good, good, (2, 0)], (), (good,), (good, good), (good,) * 4, (good, good, None),
                 (good, good, [2, 0]), (good, good, (1,)), (good, good, (1, 2, 3)), (good, good, "ab"), {}]
        for name in ("f", "c"):
            for exponents in wrong + [(good, (0, item), good) for item in NO_INTEGERS]:
                raised(self, BadMatrix, ("exponents",), well_united, formulas, name, exponents)
            for exponents in wrong + [(good, (0, item), good) for item in NO_RATIOS]:
                raised(self, BadMatrix, ("exponents",), well_united, formulas, name, exponents, True)
        self.assertIs(well_united(formulas, "f", (good, good, (2, 0))), True)
        self.assertIs(well_united(formulas, "f", (good, good, (2, 1))), False)
        self.assertIs(well_united(formulas, "f", ((2, (2, 4)), ((1, 2), 0), ((5, 2), (1, 2))), roots=True), True)
        self.assertIs(well_united(formulas, "c", (good, good, (2, 0))), False)
        self.assertIs(well_united(formulas, "k", ((0, 0),)), True)
        self.assertIs(well_united(formulas, "k", ((0, 1),)), False)

    def test_names(self):
        formulas = Formulas(PLAIN, "f(a) = a")
        for function, more in ((demands, ()), (general_units, ()), (least_clash, ()), (mends, ()), (missing, ()),
                               (well_united, (None,)), (demands, (True,)), (general_units, (True,)),
                               (least_clash, (True,)),
                               (well_united, (None, True))):
            for name in NO_TEXTS:
                raised(self, BadName, (name,), function, formulas, name, *more)
            for name in ("", "g", "a", "F", "f(a)"):
                raised(self, NoName, (name,), function, formulas, name, *more)


class Clashes(Case):
    def test_first_formula_of_the_text_is_told(self):
        text = ("a1(x) = x + 1[m]*x\nb1(x) = a1(x) + 1\nc1(x) = 1[s] + 1\nd1(x) = c1(x) + b1(x)\ne1(x) = 1 + c1(x)\n"
                "f1(x) = x\ng1(x) = f1(x) + 1[m] + 1")
        formulas = Formulas(PLAIN, text)
        for name, told_name in (("a1", "a1"), ("b1", "a1"), ("c1", "c1"), ("d1", "a1"), ("e1", "c1"), ("g1", "g1")):
            for function in (general_units, least_clash):
                for roots in (False, True):
                    self.assertEqual(function(formulas, name, roots).name, told_name)
            self.assertIs(well_united(formulas, name, ((0, 0), (0, 0))), False)
        self.assertIsNone(least_clash(formulas, "f1"))

    def test_least_clash(self):
        met = most = 0
        for source, texts in texts_for(431, 400, size=9):
            formulas = Formulas(texts.units, texts.text)
            for line in texts.lines:
                for roots in (False, True):
                    at, model = first_clash(texts, formulas, line, roots)
                    found = least_clash(formulas, line.name, roots=roots)
                    rows = model.rows()
                    places = range(len(texts.units.base))
                    if at is line and all([model.answered(rows, place) for place in places]):
                        self.assertIsNone(found)
                        continue
                    met += 1
                    self.check_clash(found, at, model, texts, roots)
                    used = [k for k, weight in enumerate(found.weights) if weight != (0, 1)]
                    most = max(most, len(used))
                    for k in used:
                        left = [rows[other] for other in used if other != k]
                        self.assertTrue(all([model.answered(left, place) for place in places]))
        self.assertGreater(met, 200)
        self.assertGreater(most, 3)

    def test_contradictions_of_integers_alone(self):
        formulas = Formulas(PLAIN, "x(a)[m] = a^2\ny(a[m]) = a^(1/2)\nz(a, b) = a^2 + b^4*1[m]\nw(a)[m^3]=(a+a)^6")
        for name in ("x", "y", "z", "w"):
            self.assertIs(general_units(formulas, name).__class__, Clash)
            self.assertIs(least_clash(formulas, name).__class__, Clash)
            self.assertIs(general_units(formulas, name, True).__class__, General)
            self.assertIsNone(least_clash(formulas, name, True))
        self.assertEqual(least_clash(formulas, "w").weights[0], (0, 1))


class SingleMends(Case):
    def replaced(self, texts, line, first, last, text):
        """The Formulas in which columns of a line are replaced by a text."""
        lines = list(texts.texts)
        old = lines[line.number - 1]
        lines[line.number - 1] = old[:first - 1] + text + old[last:]
        return Formulas(texts.units, "\n".join(lines))

    def fits(self, texts, line, first, last, pattern, exponents):
        """Whether the formula has units with a text of exponents in the place of columns."""
        formulas = self.replaced(texts, line, first, last, pattern.format(texts.units.written(tuple(exponents))))
        return isinstance(general_units(formulas, line.name), General)

    def check_one(self, source, texts, line, first, last, pattern, found):
        """Fails unless a Mend or Missing is right for these columns; found is None if none is told there."""
        width = len(texts.units.base)
        if found is None:
            for _ in range(4):
                exponents = [source.randint(-4, 4) for _ in range(width)]
                self.assertFalse(self.fits(texts, line, first, last, pattern, exponents))
            return
        self.assertTrue(all([item.__class__ is int for item in found.exponents + (found.step,)]))
        self.assertEqual(len(found.exponents), width)
        self.assertGreaterEqual(found.step, 0)
        if found.step > 0:
            self.assertTrue(all([0 <= item < found.step for item in found.exponents]))
        self.assertTrue(self.fits(texts, line, first, last, pattern, found.exponents))
        at = source.randrange(width)
        for gap in (1, -1, 2, 3, found.step, -2 * found.step):
            exponents = list(found.exponents)
            exponents[at] += gap
            due = gap % found.step == 0 if found.step else gap == 0
            self.assertIs(self.fits(texts, line, first, last, pattern, exponents), due)

    def test_plain(self):
        text = "x(a[m], b[s]) = a + 2[km]*b"
        formulas = Formulas(PLAIN, text)
        self.assertEqual(shown(mends(formulas, "x")),
                         shown((Mend((1, 4), (1, 1), 0), Mend((1, 10), (0, 0), 0), Mend((1, 22), (1, -1), 0))))
        self.assertEqual(shown(missing(formulas, "x")),
                         shown((Missing((1, 17, 17), (0, 1), 0), Missing((1, 21, 25), (0, -1), 0),
                                Missing((1, 21, 27), (0, -1), 0), Missing((1, 27, 27), (0, -1), 0))))
        formulas = Formulas(PLAIN, "x(a, b)[s] = a^6 * 1[m] + b^4")
        self.assertEqual(shown(mends(formulas, "x")), shown(()))
        formulas = Formulas(PLAIN, "x(a, b) = a^6 * 1[m] + b^4")
        self.assertEqual(shown(mends(formulas, "x")), shown((Mend((1, 18), (0, 0), 2),)))
        self.assertEqual(shown(missing(formulas, "x")), shown((
            Missing((1, 11, 13), (1, 0), 2), Missing((1, 11, 20), (1, 0), 2), Missing((1, 17, 20), (1, 0), 2),
            Missing((1, 24, 26), (1, 0), 2))))

    def spans(self, text, *parts):
        """Fails unless a factor can be missing at just these parts of the formula x, told by their texts."""
        line = text.split("\n")[-1]
        due = [(line.rindex(part) + 1, line.rindex(part) + len(part)) for part in parts]
        found = missing(Formulas(PLAIN, text), "x")
        self.assertEqual([item.place for item in found], [(text.count("\n") + 1,) + span for span in sorted(due)])

    def test_spans(self):
        self.spans("f(c) = c\nx(a[m])[s] = ((a) * ( -(2)^2)) / f( (3))  ", "((a) * ( -(2)^2)) / f( (3))",
                   "(a) * ( -(2)^2)", "a",
                   "-(2)^2", "(2)^2", "f( (3))", "3")
        self.spans("k = 1\nx(b[m])[s]=(if (1) < ((2)) then (k) else ((3 [1])))",
                   "if (1) < ((2)) then (k) else ((3 [1]))")
        self.spans("x(b[m]) = if (b) < (((4[s])*(5)^-1)) then (2) else (3)^( 1 / 2 )", "b", "(4[s])*(5)^-1", "4[s]",
                   "(5)^-1",
                   "5")
        self.spans("f(c[s^2]) = 1\nx(b[m]) = f(-(b)^( - 4 /2)*(2 [s]))", "-(b)^( - 4 /2)*(2 [s])",
                   "-(b)^( - 4 /2)", "(b)^( - 4 /2)", "2 [s]")

    def test_nothing_to_mend(self):
        text = "a1(x[m]) = x + 1\nb1(x[m]) = a1(x) + 1\nc1(x[m])[s] = x*1[s m^-1]\nd1 = 2[m]"
        formulas = Formulas(PLAIN, text)
        for name in ("b1", "c1", "d1"):
            self.assertEqual(shown(mends(formulas, name)), shown(()))
            self.assertEqual(shown(missing(formulas, name)), shown(()))
        self.assertEqual(len(mends(formulas, name="a1")), 1)
        self.assertEqual(len(missing(formulas, name="a1")), 2)

    def test_random(self):
        met = {Mend: 0, Missing: 0, None: 0}
        for source, texts in texts_for(441, 300, size=8):
            formulas = Formulas(texts.units, texts.text)
            for line in texts.lines:
                at, model = first_clash(texts, formulas, line, False)
                found = general_units(formulas, line.name)
                if isinstance(found, General) or at is not line:
                    self.assertEqual(shown(mends(formulas, line.name)), shown(()))
                    self.assertEqual(shown(missing(formulas, line.name)), shown(()))
                    continue
                self.check_mends(source, texts, line, mends(formulas, line.name), met)
                self.check_missing(source, texts, line, missing(formulas, line.name), met)
        self.assertGreater(min(met.values()), 100, met)

    def check_mends(self, source, texts, line, found, met):
        marks = [mark for mark in line.unit_marks if mark] + [part.mark for part in line.tree.all_parts() if part.mark]
        marks = sorted(marks, key=lambda mark: mark.column)
        table = {mend.place: mend for mend in found}
        self.assertEqual([mend.place for mend in found],
                         [(line.number, mark.column) for mark in marks if (line.number, mark.column) in table])
        for mark in marks:
            mend = table.get((line.number, mark.column))
            self.assertTrue(mend is None or mend.__class__ is Mend)
            met[mend and Mend] += 1
            self.check_one(source, texts, line, mark.column, mark.column + len(mark.text) - 1, "[{}]", mend)

    def check_missing(self, source, texts, line, found, met):
        spans = sorted([(part.first.column,
                         part.last.column + len(part.last.text) - 1) for part in line.tree.all_parts()])
        table = {item.place: item for item in found}
        self.assertEqual([item.place for item in found],
                         [(line.number,) + span for span in spans if (line.number,) + span in table])
        for first, last in spans:
            item = table.get((line.number, first, last))
            self.assertTrue(item is None or item.__class__ is Missing)
            met[item and Missing] += 1
            old = texts.texts[line.number - 1][first - 1:last]
            self.check_one(source, texts, line, first, last, "((" + old + ")*1[{}])", item)


class Limits(Case):
    def test_sixty_parts(self):
        letters = [f"p{k}" for k in range(30)]
        head = "x(" + ", ".join(letters).replace("p0,", "p0[m],").replace("p29", "p29[s]") + ") = "
        formulas = Formulas(PLAIN, head + " + ".join(letters))
        found = least_clash(formulas, "x")
        self.assertEqual(len(found.places), 3)
        self.assertEqual(len(mends(formulas, "x")), 2)
        # The first letter and all sums that it begins, but the whole one, and the last letter.
        self.assertEqual(len(missing(formulas, "x")), 30)
        roots = "x(a, b, c[m]) = " + " + ".join(["((a^(7/11)*b)^(13/17)*c^5)^(3/19)"] * 5)
        self.assertIs(general_units(Formulas(PLAIN, roots), "x").__class__, General)
        self.assertIs(general_units(Formulas(PLAIN, roots), "x", True).__class__, General)

    def test_twenty_formulas(self):
        source = random.Random(461)
        letters = [f"p{k}" for k in range(12)]
        head = "(" + ", ".join(letters) + ") = "
        lines = ["f0" + head + " + ".join(["*".join(source.sample(letters, 3)) for _ in range(8)])]
        for k in range(1, 20):
            calls = [f"f{k - 1}(" + ", ".join([source.choice(letters) for _ in letters]) + ")" for _ in range(2)]
            lines.append(f"f{k}" + head + "(" + " * ".join(calls) + ")^(1/2)")
        formulas = Formulas(PLAIN, "\n".join(lines))
        for roots in (False, True):
            self.assertIs(general_units(formulas, "f19", roots).__class__, General)


if __name__ == "__main__":
    unittest.main()
