"""Points [93], [94] and what [96] says of promises: their texts, whether they are kept, and witnesses."""

import random
import unittest

from allscales.conversions import Loose, Ring
from allscales.desk import Desk
from allscales.errors import BadNumber, BadText, ByZero, HasIf, NoName, NoUnit, NotKept, NotPower
from allscales.hanging import Zero
from allscales.inference import Clash, General
from allscales.records import Contradiction, Open, Settled
from allscales.worth import Refuter
from support import NO_TEXTS, fraction, raised, shown
from test_files import wrong_at

FILE = """units u
base m s
unit km 1000 m
unit h 3600 s
unit to 2 s
unit at 3 m
scale c m 1 2
formulas f on u
g = 10 [m s^-2]
fall(t[s])[m] = g * t^2 / 2
area(a, b) = a * b
sum(a, b) = a + b
clash(a) = a + a * g
less(a, b) = if a < b then a else b
calls(a) = less(a, a)
root(a) = a^(1/2)
zero(a) = a - a
over(a) = 1 / (a - a)
cancel(a, b) = (a^2 - b^2) / (a - b)
record r on u
letter x m
letter y km
letter t s
value m s^-1
row 1 1 1 5
row 2 2 2 5
row 2 3 1 -7
record one on u
letter x m^2
value m
row 1 3
row 4 6
record bad on u
letter x m
value km
row 1 2
row 2 5
record nil on u
letter x m
value s
row 1 0
sizes z
unknown a b at
equal 6 a b
equal 2 a
sizes ring
unknown a
equal 2 a
equal 3 a
sizes half
unknown a b
equal 3 a^2
"""

# Promises that are kept, each with a promise that is not, and its witness.
PAIRS = (
    ("f.fall text s to m", "f.fall text m to m", General),
    ("f.fall text s to m", "f.fall text s to m^2", General),
    ("f.fall text h to km", "f.fall text 1 to km", General),
    ("f.g text to m s^-2", "f.g text to m", General),
    ("f.area text m s , s^-1 to m", "f.area text m , s to m", General),
    ("f.area text 1 , 1 to 1", "f.area text 1 , 1 to m", General),
    ("f.area text m , to^2 to m to to", "f.area text m , s to m at", General),
    ("f.less text m , km to at", "f.less text m , s to m", General),
    ("f.root text s^4 to s^2", "f.root text s^3 to s^2", General),
    ("f.area text m , s to m s", "f.clash text s to s", Clash),
    ("f.area worth m , s to m s", "f.area worth m , s to m", Refuter),
    ("f.cancel worth m , m to m", "f.cancel worth m , s to m", Refuter),
    # By worth a number has no unit, whatever its unit words tell.
    ("f.fall worth s to s^2", "f.fall worth s to m", Refuter),
    ("f.sum worth m^2 km , m^3 to m^3", "f.sum worth m , m^2 to m", Refuter),
    ("r letter x free", "r letter x none", ("free", None)),
    ("r letter t power -1", "r letter t power 1", ("fixed", (-1, 1))),
    ("r letter t power -6/6", "r letter t free", ("fixed", (-1, 1))),
    ("one letter x power 1/2", "one letter x power 2", ("fixed", (1, 2))),
    ("one letter x power 2/4", "one letter x none", ("fixed", (1, 2))),
    ("r letter y free", "nil letter x free", Zero),
    ("r possible", "bad possible", Contradiction),
    ("nil possible", "bad possible", Contradiction),
    ("r settles 1 1 2 at 5/2", "r settles 1 1 2 at 3", Settled),
    ("r settles 2/2 1 2 at 10/4", "r settles 1 1 2 at -5/2", Settled),
    ("r settles 2 3 7 at -1", "r settles 1 2 1 at 5", Open),
    ("one settles 9/4 at 9/2", "one settles 2 at 4", Settled),
    ("nil settles 5 at 0", "nil settles 5 at 1", Settled),
    ("r settles 1 1 1 at 5", "bad settles 1 at 2", Contradiction),
    ("z holds", "ring holds", Ring),
    ("half holds", "ring holds", Ring),
    ("z sets b at 3", "z sets b at 4", (1, 1, (3, 1))),
    ("z sets a^2 b at 24/2", "half sets b at 1", Loose),
    ("z sets 1 at 1", "ring sets a at 2", Ring),
    ("half sets a^2 at 3", "half sets a at 2", (1, 2, (3, 1))),
    ("z sets b^0 a^-1 at 1/2", "z sets at^2 at 1", Loose),
)


class Case(unittest.TestCase):
    def setUp(self):
        self.desk = Desk(FILE)
        self.before = self.state()

    def state(self):
        return (self.desk.lines(), self.desk.item_names(), self.desk.promises())

    def raises(self, error, fields, promise):
        """Fails unless kept and keep raise this error for a promise, also within attempts and trials."""
        for call in (self.desk.kept, self.desk.keep, lambda text: self.desk.attempt(lambda desk: desk.keep(text)),
                     lambda text: self.desk.trial(lambda desk: desk.keep(text))):
            raised(self, error, fields, call, promise)
            self.assertEqual(self.state(), self.before)


class Kept(Case):
    def test_kept(self):
        for promise, _, _ in PAIRS:
            self.assertEqual(shown(self.desk.kept(promise)), shown((True, None)), promise)
            self.assertIsNone(self.desk.keep(promise))
        self.assertEqual(self.desk.promises(), tuple(dict.fromkeys([promise for promise, _, _ in PAIRS])))
        self.assertEqual(self.desk.broken(), ())

    def test_not_kept(self):
        for _, promise, kind in PAIRS:
            told = self.desk.kept(promise)
            self.assertEqual(told.__class__, tuple)
            self.assertIs(told[0], False)
            self.witness(promise, told[1], kind)
            self.assertEqual(shown(self.desk.kept(promise)), shown(told))
            with self.assertRaises(NotKept) as caught:
                self.desk.keep(promise)
            self.assertEqual(caught.exception.promise, promise)
            self.witness(promise, caught.exception.witness, kind)
            self.assertEqual(self.state(), self.before)

    def witness(self, promise, witness, kind):
        if isinstance(kind, tuple):
            self.assertEqual(shown(witness), shown(kind), promise)
        else:
            self.assertIs(witness.__class__, kind, promise)

    def test_broken(self):
        broken = [promise for _, promise, _ in PAIRS]

        def action(desk):
            for promise, other, _ in PAIRS:
                desk.keep(promise)
                desk.keep(other)
            return desk.broken()

        found = self.desk.trial(action)
        self.assertIsInstance(found, tuple)
        self.assertEqual([promise for promise, _ in found], list(dict.fromkeys(broken)))
        for told in found:
            self.assertIsInstance(told, tuple)
            self.assertEqual(shown(told[1]), shown(self.desk.kept(told[0])[1]))


class Witnesses(Case):
    def test_text(self):
        found = self.desk.kept("f.fall text m to m")[1]
        self.assertEqual(found.spots, ((0, 1), (1, 0)))
        self.assertEqual(found.basis, ())
        found = self.desk.kept("f.clash text m to m")[1]
        self.assertEqual(found.name, "clash")

    def test_worth(self):
        found = self.desk.kept("f.area worth m , s to m")[1]
        quotient = self.desk.get_formulas("f").quotient("area")
        self.assertEqual(quotient.at(found.point)[0] > 0, True)
        moved = [fraction(item) * fraction((2, 1)) ** power
                 for item, power in zip(found.point, (found.change[0], found.change[1]))]
        self.assertEqual(fraction(found.first), moved[0] * moved[1])
        self.assertEqual(fraction(found.second), fraction(quotient.at(found.point)) * fraction((2, 1)) ** found.change[0])
        self.assertNotEqual(found.first, found.second)

    def test_letter(self):
        self.assertEqual(self.desk.kept("nil letter x power 1")[1].change[0], 0)
        self.assertNotEqual(self.desk.kept("nil letter x power 1")[1].change[1], 0)
        self.assertEqual(self.desk.kept("one letter x power 0")[1], ("fixed", (1, 2)))
        desk = Desk("units u\nbase m s\nrecord r on u\nletter x m\nletter t s\nvalue m\n")
        self.assertEqual(desk.kept("r letter t none"), (True, None))
        self.assertEqual(desk.kept("r letter t power 0"), (False, ("none", (0, 1))))

    def test_records(self):
        found = self.desk.kept("bad possible")[1]
        # 2 m is twice 1 m, so it has 4 km, which are 4000 m.
        self.assertEqual((found.first, found.second, found.due), (0, 1, (1, 1, (4000, 1))))
        self.assertEqual(shown(self.desk.kept("bad settles 1 at 2")[1]), shown(found))
        found = self.desk.kept("r settles 1 1 2 at 3")[1]
        self.assertEqual((found.place, found.value), (0, (1, 1, (5, 2))))
        found = self.desk.kept("r settles 1 2 1 at 5")[1]
        self.assertEqual([piece.size for piece in found.pieces + (found.extra,)], [1, 1, 1])
        self.assertEqual(self.desk.kept("nil settles 5 at 1")[1].place, None)

    def test_told_units_of_a_record(self):
        desk = Desk("units u\nbase m s\nunit km 1000 m\nunit h 3600 s\nrecord r on u\nletter x km\nvalue km^2\nrow 1 3\n")
        self.assertEqual(desk.kept("r settles 2 at 12"), (True, None))
        found = desk.kept("r settles 2 at 13")[1]
        self.assertEqual(found.value, (1, 1, (12 * 10 ** 6, 1)))

    def test_sizes(self):
        found = self.desk.kept("ring holds")[1]
        self.assertEqual(sum(found.weights), 0)
        self.assertEqual(fraction(found.product), fraction(2) ** found.weights[0] * fraction(3) ** found.weights[1])
        found = self.desk.kept("half sets b at 1")[1]
        self.assertEqual((found.change[0], found.change[1] != 0), (0, True))


class Texts(Case):
    def test_no_texts(self):
        for value in NO_TEXTS:
            self.raises(BadText, (0, 0), value)
            raised(self, BadText, (0, 0), self.desk.release, value)

    def test_wrong_words(self):
        for marked in ("~", "~ ", "~F.g text to m", "~f.G text to m", "~.g text to m", "~f. text to m", "~f.g.h text to m",
                       "~1", "~r^2 possible", "~abcdefghijklm possible", "~ r possible",
                       "f.g ~", "f.g ~possible", "f.g ~letter x free", "f.g ~holds", "f.g ~sets a at 1", "f.g ~Text to m",
                       "f.g ~settles 1 at 1", "r ~", "r ~text m to m", "r ~worth m to m", "r ~is", "r ~at", "r ~to",
                       "f ~text to m",
                       # text and worth
                       "f.g text ~", "f.g text ~, m to m", "f.g text ~M to m", "f.g text m ~", "f.g text m ~1 to m",
                       "f.g text 1 ~m to m", "f.g text 1 ~1 to m", "f.g text m , ~to m", "f.g text m , ~, s to m",
                       "f.g text m , ~", "f.g text to ~", "f.g text to m ~, s", "f.g text to 1 ~m", "f.g text to m ~1",
                       "f.g text to 1 ~to", "f.g text to ~2", "f.g text m to ~to^", "f.g text ~m^ to m",
                       "f.g text m s^1 ~s^100 to m", "f.g text m ~ to m", "f.g text ~m, s to m",
                       "f.g text m to s ~ ", "f.g text to m ~;", "f.g worth ~to m", "f.g worth ~", "f.g worth m , s ~",
                       "f.g worth m , ~ , s to m", "f.g worth m to ~", "f.g worth m to m ~, m",
                       # letter
                       "r letter ~", "r letter ~X free", "r letter ~x^2 free", "r letter x ~", "r letter x ~fixed",
                       "r letter x ~Free", "r letter x free ~1", "r letter x none ~none", "r letter x power ~",
                       "r letter x power ~a", "r letter x power ~1/0", "r letter x power 1 ~1", "r letter x power ~1.5",
                       # possible, settles
                       "r possible ~possible", "r possible ~ ", "r settles ~", "r settles ~at 1", "r settles 1 ~",
                       "r settles 1 ~to 1", "r settles 1 at ~", "r settles 1 at ~at", "r settles 1 at 1 ~1",
                       "r settles ~1/0 at 1", "r settles 1 ~+1 at 1", "r settles 1 ~ at 1",
                       "r settles 1 at 2 ~at 3",
                       # holds, sets
                       "z holds ~z", "z sets ~", "z sets ~at 1", "z sets a ~", "z sets a ~2 at 1", "z sets a b ~",
                       "z sets a at ~", "z sets a at ~a", "z sets a at 1 ~2", "z sets 1 ~a at 1", "z sets a ~1 at 1",
                       "z sets a ~, b at 1", "z sets a ~B at 1", "z sets ~a^b at 1"):
            text, place = wrong_at(marked + "\n")
            self.raises(BadText, place, text[:-1])

    def test_texts_ahead_of_names(self):
        # A text that is no promise is wrong whatever items there are.
        for marked in ("none ~", "none.none text ~", "none possible ~1", "none letter x power ~", "z settles 1 at ~",
                       "none.g worth ~to m"):
            text, place = wrong_at(marked + "\n")
            self.raises(BadText, place, text[:-1])

    def test_words_in_turn(self):
        # Each word in turn becomes one that is wrong anywhere; and a word more is one too many.
        source = random.Random(1)
        for promise in [promise for told in PAIRS for promise in told[:2]]:
            words = promise.split(" ")
            for at in range(len(words)):
                wrong = source.choice(("?", "A", "^", "", "m^1^1", "1/"))
                self.raises(BadText, (1, at + 1), " ".join(words[:at] + [wrong] + words[at + 1:]))
            self.raises(BadText, (1, len(words) + 1), promise + " ?")


class Asked(Case):
    def test_no_such_item(self):
        for promise, name in (("none.g text to m", "none"), ("r.g text to m", "r"), ("u.g worth m to m", "u"),
                              ("z.g text to m", "z"), ("f possible", "f"), ("u possible", "u"), ("z possible", "z"),
                              ("none letter x free", "none"), ("f letter x free", "f"), ("z settles 1 at 1", "z"),
                              ("r holds", "r"), ("none sets a at 1", "none"), ("f holds", "f"), ("if holds", "if")):
            self.raises(NoName, (name,), promise)

    def test_no_such_formula(self):
        for name in ("none", "if", "f", "m"):
            self.raises(NoName, (name,), f"f.{name} text to n")
            self.raises(NoName, (name,), f"f.{name} worth n to m")

    def test_numbers_of_units(self):
        for promise, many in (("f.g text m to n", 1), ("f.area text to n", 0), ("f.area text n to m", 1),
                              ("f.area text m , m , n to m", 3), ("f.g worth n to m", 1), ("f.area worth n to m", 1),
                              ("f.zero worth m , n to m", 2), ("f.less worth n to m", 1)):
            self.raises(BadNumber, ("units", many), promise)

    def test_no_such_unit(self):
        for promise, name in (("f.fall text n to k", "n"), ("f.fall text s to k", "k"), ("f.g text to m n k", "n"),
                              ("f.area text m k^2 , n to m", "k"), ("f.area worth m , n to k", "n"),
                              ("f.fall text c to m", "c"), ("f.less worth m , q to m", "q"), ("f.over worth q to m", "q"),
                              ("f.root worth m to q", "q"), ("f.zero worth m to q", "q"), ("f.clash text g to m", "g")):
            self.raises(NoUnit, (name,), promise)

    def test_numbers_of_inputs(self):
        for promise, many in (("r settles 1 at 1", 1), ("r settles 1 1 at 1", 2), ("r settles 0 0 0 0 at 1", 4),
                              ("bad settles 0 0 at 1", 2), ("nil settles 1 1 at 1", 2)):
            self.raises(BadNumber, ("inputs", many), promise)

    def test_no_such_letter(self):
        for promise, name in (("r letter m free", "m"), ("r letter z power 1", "z"), ("nil letter t none", "t")):
            self.raises(NoName, (name,), promise)
        for promise, name in (("z sets c at 0", "c"), ("z sets a c d at 1", "c"), ("ring sets b at 1", "b"),
                              ("half sets b c^2 a at -1", "c"), ("z sets c^0 at 1", "c")):
            self.raises(NoName, (name,), promise)

    def test_ratios_that_are_not_above_zero(self):
        for promise, ratio in (("r settles 1 0 -1 at 1", (0, 1)), ("r settles -2/4 1 0 at 1", (-1, 2)),
                               ("bad settles 0 at 1", (0, 1)), ("nil settles -3 at 0", (-3, 1)),
                               ("z sets a at 0", (0, 1)), ("z sets 1 at -6/4", (-3, 2)), ("ring sets a at 0/7", (0, 1)),
                               ("half sets b at -1", (-1, 1))):
            self.raises(BadNumber, ("ratio", ratio), promise)
        # The value of a record may have any sign.
        self.assertEqual(self.desk.kept("r settles 2 3 1 at -7"), (True, None))
        self.assertIs(self.desk.kept("r settles 2 3 1 at 0")[0], False)

    def test_quotients(self):
        self.raises(HasIf, ("less",), "f.less worth m , s to m")
        self.raises(HasIf, ("less",), "f.calls worth m to m")
        self.raises(NotPower, (self.place("root(", "^"),), "f.root worth m to m")
        self.raises(ByZero, (self.place("over(", "/"),), "f.over worth m to m")
        self.raises(BadNumber, ("quotient", 0), "f.zero worth m to m")
        self.assertEqual(self.desk.kept("f.zero text m to m"), (True, None))

    def place(self, head, sign):
        """The place of a sign in the line of a formula that begins so."""
        lines = self.desk.get_formulas("f").text.split("\n")
        number = [k for k, line in enumerate(lines) if line.startswith(head)][0]
        return (number + 1, lines[number].index(sign) + 1)


if __name__ == "__main__":
    unittest.main()
