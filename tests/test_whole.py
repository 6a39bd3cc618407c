"""The document as a whole: papers of one part that are used by another."""

import unittest
from fractions import Fraction

from allscales.amounts import Amount
from allscales.bases import as_powers, relations
from allscales.conversions import size_settled
from allscales.desk import Desk
from allscales.errors import NotKept
from allscales.fits import power_rule
from allscales.formulas import Formulas
from allscales.groups import by_base, groups_of, in_groups
from allscales.hanging import hangs, moving_rule, quotient_rules
from allscales.inference import general_units, well_united
from allscales.matrices import in_lattice, saturated
from allscales.models import Carried, Gap, carried
from allscales.ones import alike_units, called_one, put_back, together
from allscales.powers import power_product
from allscales.quotients import letter_of, monomial_of, number_of, same
from allscales.records import Open, Records, Settled, plan, result_units
from allscales.systems import Recurrence, System, carried_down, carried_up, reduced, reduced_recurrence, run, scalings
from allscales.units import Units
from allscales.worth import covariant, refuter, result_of, weights_of
from lattices import rank_of
from support import fraction, pair

UNITS = "base m s kg\nunit km 1000 m\nunit n 1 kg m s^-2\n"
# The energy of a body with the mass a, the speed b and the height h under the gravity g.
TEXT = "half(a, b) = a * b^2 / 2\nenergy(a, b, g, h) = half(a, b) + a * g * h\nspeed(g, h) = (2 * g * h)^(1/2)\n"
LETTERS = ((0, 0, 1), (1, -1, 0), (1, -2, 0), (1, 0, 0))
ENERGY = (2, -2, 1)


def columns(rows):
    return [list(column) for column in zip(*rows)]


class OneFormula(unittest.TestCase):
    def setUp(self):
        self.units = Units(UNITS)
        self.formulas = Formulas(self.units, TEXT)
        self.quotient = self.formulas.quotient("energy")

    def test_units_by_text_and_by_worth(self):
        # What is among the units by text is so by worth; for each base unit it is a weight.
        found = general_units(self.formulas, "energy")
        self.assertTrue(well_united(self.formulas, "energy", LETTERS + (ENERGY,)))
        self.assertTrue(covariant(self.quotient, LETTERS, ENERGY))
        self.assertEqual(result_of(self.quotient, LETTERS), ENERGY)
        weights = weights_of(self.quotient)
        for row in list(found.basis) + columns(found.spots) + columns(LETTERS + (ENERGY,)):
            self.assertIsNotNone(in_lattice(weights, row))
        self.assertEqual(saturated(found.basis), weights)
        wrong = refuter(self.quotient, LETTERS, (2, -2, 2))
        self.assertEqual(self.quotient.at(wrong.point)[0] > 0, True)
        self.assertNotEqual(wrong.first, wrong.second)

    def test_on_what_it_hangs(self):
        # Mass alone can not be left out; what is told of the letters fits the quotient and its groups.
        found = hangs(LETTERS, ENERGY)
        self.assertEqual((found.kinds[0], found.powers[0]), ("fixed", (1, 1)))
        self.assertEqual(found.kinds[1:], ("free",) * 3)
        spot = quotient_rules(LETTERS, ENERGY).spot
        monomial = self.quotient.over(moving_rule(LETTERS, ENERGY, 1))
        self.assertTrue(covariant(monomial, LETTERS, (0, 0, 0)))
        inside = in_groups(monomial, LETTERS)
        basis = groups_of(LETTERS).basis
        self.assertEqual((inside.size, len(basis)), (1, 1))
        point = (3, 5, 7, 2)
        marks = [pair(product(point, row)) for row in basis]
        self.assertEqual(inside.at(marks), monomial.at(point))
        self.assertEqual([sum([power * row[at] for power, row in zip(spot, LETTERS)]) for at in range(3)], list(ENERGY))

    def test_amounts_and_quotients(self):
        given = [Amount(exponents, number) for exponents, number in zip(LETTERS, (2, 3, 10, (1, 2)))]
        found = self.formulas.work("energy", given)
        self.assertEqual((found.exponents, found.number), (ENERGY, self.quotient.at((2, 3, 10, (1, 2)))))

    def test_a_record_of_its_values(self):
        points = [(2, 3, 10, 4), (4, 3, 10, 4), (2, 6, 10, 16), (1, 1, 1, 1), (2, 3, 40, 1)]
        rows = [(point, self.quotient.at(point)) for point in points]
        record = Records(LETTERS, ENERGY, rows)
        self.assertIsNone(record.contradiction)
        self.assertEqual(record.orbits, ((0, 1, 2, 4), (3,)))
        self.assertEqual(plan(LETTERS, points), (0, 3))
        new = (7, 30, 1000, 4)
        found = record.settled(new)
        self.assertIsInstance(found, Settled)
        self.assertEqual(found.value, (1, 1, self.quotient.at(new)))
        self.assertEqual(power_product([(rows[0][1], 1)] + [(pair(Fraction(a, b)), power) for a, b, power
                                                            in zip(new, points[0], found.powers)]), found.value)
        # The unit of the energy is among those that fit.
        fitting = result_units(LETTERS, rows)
        gap = [fraction(item) - due for item, due in zip(fitting.spot, ENERGY)]
        self.assertEqual(rank_of(list(fitting.basis) + [gap]), len(fitting.basis))
        self.assertIsInstance(record.settled((1, 2, 1, 1)), Open)

    def test_a_value_that_is_open(self):
        rows = [((2, 3, 10, 4), 5), ((1, 1, 1, 1), 7)]
        found = Records(LETTERS, ENERGY, rows).settled((1, 2, 1, 1))
        basis = groups_of(LETTERS).basis
        for k, (point, _) in enumerate(rows):
            marks = [pair(product(point, row)) for row in basis]
            self.assertEqual([piece.at(marks) for piece in found.pieces], [(int(at == k), 1) for at in range(2)])

    def test_a_model(self):
        # A model of a tenth of the height, under the same gravity.
        found = carried(LETTERS, (None, None, 1, (1, 10)))
        self.assertEqual(found.factors, (None, (1, 2, (1, 10)), (1, 1, (1, 1)), (1, 1, (1, 10))))
        self.assertEqual(found.changes, ((0, 0, 1),))
        found = carried(LETTERS, (5, (1, 2), 1, (1, 4)))
        self.assertIsInstance(found, Carried)
        point = (2, 3, 10, 4)
        model = (10, (3, 2), 10, 1)
        ratio = fraction(self.quotient.at(model)) / fraction(self.quotient.at(point))
        self.assertEqual(ratio, 5 * Fraction(1, 4))
        gap = carried(LETTERS, (5, (1, 2), 1, (1, 5)))
        self.assertIsInstance(gap, Gap)
        self.assertIn(gap.group, both_ways(groups_of(LETTERS).basis))


def both_ways(rows):
    """Rows and their opposites."""
    return list(rows) + [tuple([-item for item in row]) for row in rows]


def product(numbers, powers):
    total = Fraction(1)
    for number, power in zip(numbers, powers):
        total *= fraction(number) ** power
    return total


class Ones(unittest.TestCase):
    def test_called_one_and_put_back(self):
        quotient = Formulas(Units(UNITS), TEXT).quotient("energy")
        self.assertIsNone(together(LETTERS, [0, 2, 3]))
        plain = called_one(quotient, [0, 2, 3])
        speed = letter_of(4, 1)
        self.assertEqual(plain, speed * speed * number_of(4, (1, 2)) + number_of(4, 1))
        back = put_back(plain, LETTERS, ENERGY, [0, 2, 3])
        self.assertTrue(same(back, quotient))
        self.assertEqual(result_of(back, LETTERS), ENERGY)
        # Units in which the letters called one are base units have the same groups.
        powers = by_base(LETTERS, [0, 2, 3])
        moved = tuple([tuple([2 * top // bottom for top, bottom in row]) for row in powers])
        self.assertIsNone(alike_units(LETTERS, moved))
        self.assertEqual(groups_of(LETTERS).basis, groups_of(moved).basis)


class Scaled(unittest.TestCase):
    def test_a_system_scaled_by_its_units(self):
        # An equation between speeds is scaled by each change of units, so it is one between groups.
        a, b, g, h = [letter_of(4, j) for j in range(4)]
        system = System(4, [(b * b, "=", g * h + g * h)])
        basis = scalings(system).basis
        for column in columns(LETTERS):
            self.assertIsNotNone(in_lattice(basis, column))
        small = reduced(system)
        self.assertEqual(small.system.size, 1)
        factors, rest = carried_down(small, (1, 4, 2, 4))
        self.assertTrue(system.solved_at((1, 4, 2, 4)) and small.system.solved_at(rest))
        self.assertEqual(carried_up(small, factors, rest), ((1, 1), (4, 1), (2, 1), (4, 1)))
        # The letter that is left is the group of the letters, or 1 over it.
        self.assertIn(small.down[-1], both_ways(groups_of(LETTERS).basis))
        # A row that no change of units keeps as it is takes scalings away.
        self.assertLess(len(scalings(System(4, [(b * b, "=", g * h), (a, "<", b)])).basis), len(basis))

    def test_a_recurrence(self):
        x, a = letter_of(2, 0), letter_of(2, 1)
        newton = Recurrence(2, [(x + a.over(x)) * number_of(2, (1, 2)), a])
        steps = reduced_recurrence(newton)
        points = run(newton, (3, 2), 4)
        marks = [pair(product(point, steps.down[1])) for point in points]
        for now, then in zip(marks, marks[1:]):
            self.assertEqual(steps.rows[0].at([now]), then)
        self.assertEqual(monomial_of(newton.rows[1]), ((0, 1), (1, 1)))


class Powers(unittest.TestCase):
    def test_relations_and_sizes(self):
        # A row of relations between ratios is what keeps equations together.
        ratios = [12, 18, 8, 27]
        for row in relations(ratios):
            self.assertEqual(product(ratios, row), 1)
        found = as_powers(8, [12, 18], roots=True)
        value = size_settled([[1, 0], [0, 1]], [12, 18], (1, 1))
        self.assertEqual(value, (1, 1, (216, 1)))
        self.assertEqual(power_product([(ratio, power) for ratio, power in zip((12, 18), found.spot)]), (1, 1, (8, 1)))

    def test_a_rule_of_powers(self):
        # speed(g, h) is a rule of powers, but for its root of 2.
        formulas = Formulas(Units(UNITS), TEXT)
        rows = []
        for g, h in ((2, 9), (8, 9), (2, 25), (18, 1)):
            value = formulas.work("speed", [Amount((1, -2, 0), g), Amount((1, 0, 0), h)])
            self.assertEqual(value.exponents, (1, -1, 0))
            rows.append(((g, h), value.number))
        self.assertEqual(power_rule(rows).spot, ((1, 2), (1, 2)))
        found = result_units((LETTERS[2], LETTERS[3]), rows)
        self.assertEqual((found.spot, found.basis), (((1, 1), (-1, 1), (0, 1)), ()))
        self.assertEqual(hangs((LETTERS[2], LETTERS[3]), (1, -1, 0)).powers, ((1, 2), (1, 2)))


class AtTheDesk(unittest.TestCase):
    FILE = ("formulas f on u\n" + TEXT + "record r on u\nletter a kg\nletter b m s^-1\nletter g m s^-2\nletter h km\n"
            "value n m\nrow 2 3 10 4/1000 89\nrow 1 1 1 1/1000 3/2\nunits u\n" + UNITS
            + "sizes z\nunknown p q\nequal 12 p\nequal 18 q\n")
    KEPT = ("f.energy text kg , m s^-1 , m s^-2 , m to n m", "f.energy worth kg , m s^-1 , m s^-2 , m to kg m^2 s^-2",
            "f.speed text m s^-2 , m to m s^-1", "r letter a power 1", "r letter b free", "r possible",
            "r settles 7 30 1000 4/1000 at 31150", "z holds", "z sets p q at 216", "z sets p q^-1 at 2/3")

    def test_all_of_it_as_promises(self):
        desk = Desk(self.FILE)
        for promise in self.KEPT:
            desk.keep(promise)
        self.assertEqual((desk.promises(), desk.broken()), (self.KEPT, ()))
        self.assertEqual(desk.get_record("r").exponents, LETTERS)
        self.assertEqual(desk.get_formulas("f").quotient("energy").at((2, 3, 10, 4)), (89, 1))

        def in_other_order(desk):
            desk.edit("u", 1, "base kg s m")
            return (desk.broken(), desk.get_record("r").exponents)

        def with_a_power(desk):
            desk.edit("f", 1, "half(a, b) = a * b^3 / 2")
            return [promise for promise, _ in desk.broken()]

        self.assertEqual(desk.trial(in_other_order), ((), ((1, 0, 0), (0, -1, 1), (0, -2, 1), (0, 0, 1))))
        self.assertEqual(desk.trial(with_a_power), list(self.KEPT[:2]))
        before = desk.lines()
        with self.assertRaises(NotKept) as caught:
            desk.edit("r", 7, "row 4 3 10 4/1000 179")
        self.assertEqual(caught.exception.promise, "r possible")
        witness = caught.exception.witness
        self.assertEqual((witness.first, witness.second, witness.due), (0, 1, (1, 1, (178, 1))))
        self.assertEqual(desk.lines(), before)
        desk.rename("u", "si")
        desk.rename("f", "laws")
        self.assertEqual(desk.promises()[0], "laws" + self.KEPT[0][1:])
        self.assertEqual(desk.broken(), ())


if __name__ == "__main__":
    unittest.main()
