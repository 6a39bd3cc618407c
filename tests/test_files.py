"""Points [91] and [92]: the files of a desk, their items, and their errors."""

import random
import unittest

from allscales.amounts import Amount
from allscales.desk import Desk
from allscales.errors import BadText, NoName, TooDeep
from allscales.formulas import Formulas
from allscales.records import Records
from allscales.units import Units
from support import NO_TEXTS, called, raised, shown

UNITS = "units u\nbase m s\nunit km 1000 m\nunit h 3600 s\nscale c m 1 2\n"
FORMULAS = "formulas f on u\nfall(t[s])[m] = 5 [m s^-2] * t^2\n\n  g = 10 [m s^-2]\n"
RECORD = "record r on u\nletter way km\nletter time h\nvalue km h^-1\nrow 1 2 1/2\nrow 2 2/3 -3\n"
SIZES = "sizes z\nunknown a b\nequal 6 a b^2\nequal 1/2 b^-1\n"
BODIES = (UNITS, FORMULAS, RECORD, SIZES)


def wrong_at(text):
    """(the text without its mark ~, the line and the number of the word at which the mark stands)."""
    ahead = text[:text.index("~")]
    line = ahead[ahead.rfind("\n") + 1:]
    place = (ahead.count("\n") + 1, line.count(" ") + 1)
    # A mark that is a word by itself at the end of a line stands for a word that is missing.
    return (text.replace(" ~\n", "\n").replace("~", ""), place)


class Case(unittest.TestCase):
    def wrong(self, marked, ahead=""):
        """Fails unless a text is wrong at its mark, as a file, and put to a desk with the file ahead."""
        text, place = wrong_at(marked)
        raised(self, BadText, place, Desk, text)
        self.put_wrong(BadText, place, text, ahead)

    def put_wrong(self, error, fields, text, ahead=""):
        desk = Desk(ahead)
        before = shown((desk.lines(), desk.item_names()))
        with self.assertRaises(error) as caught:
            desk.put(text)
        self.assertEqual(shown(tuple(caught.exception.__dict__.values())), shown(fields), text)
        self.assertEqual(shown((desk.lines(), desk.item_names())), before)
        with self.assertRaises(Exception) as caught:
            desk.undo()
        self.assertEqual(caught.exception.__class__.__name__, "NothingToUndo")


class Files(Case):
    def test_the_empty_text(self):
        for desk in (Desk(), Desk(""), Desk(text="")):
            self.assertEqual((desk.lines(), desk.item_names(), desk.promises()), ("", (), ()))

    def test_no_texts(self):
        for value in NO_TEXTS:
            raised(self, BadText, (0, 0), Desk, value)
            self.put_wrong(BadText, (0, 0), value, UNITS)

    def test_items_in_any_order(self):
        source = random.Random(1)
        for _ in range(20):
            parts = list(BODIES)
            source.shuffle(parts)
            text = "".join(parts)
            for given in (text, text[:-1]):
                desk = Desk(given)
                self.assertEqual(desk.lines(), text)
                self.assertEqual(desk.item_names(), tuple([part.split("\n")[0].split(" ")[1] for part in parts]))
                self.check_items(desk)
                other = Desk()
                self.assertIsNone(other.put(given))
                self.assertEqual(shown((other.lines(), other.item_names())), shown((desk.lines(), desk.item_names())))

    def check_items(self, desk):
        units = desk.get_units("u")
        self.assertIs(units.__class__, Units)
        self.assertEqual(units.text, UNITS[len("units u\n"):])
        self.assertEqual(units.names, ("m", "s", "km", "h", "c"))
        formulas = desk.get_formulas("f")
        self.assertIs(formulas.__class__, Formulas)
        self.assertEqual(formulas.text, FORMULAS[len("formulas f on u\n"):])
        self.assertEqual((formulas.names, formulas.units.text), (("fall", "g"), units.text))
        self.assertEqual(formulas.work("fall", [Amount((0, 1), 2)]), Amount((1, 0), 20))
        record = desk.get_record("r")
        self.assertIs(record.__class__, Records)
        self.assertEqual((record.exponents, record.result), (((1, 0), (0, 1)), (1, -1)))
        # 1 km, 2 h and half a km per hour, in m and s.
        self.assertEqual(record.rows[0], (((1000, 1), (7200, 1)), (5, 36)))
        self.assertEqual(record.rows[1], (((2000, 1), (2400, 1)), (-5, 6)))
        self.assertEqual(shown(desk.get_sizes("z")), shown((((1, 2), (0, -1)), ((6, 1), (1, 2)))))

    def test_the_last_line_feed(self):
        self.assertEqual(Desk("units u\nbase m").lines(), "units u\nbase m\n")
        self.assertEqual(Desk("units u\nbase m\nformulas f on u").lines(), "units u\nbase m\nformulas f on u\n")
        self.assertEqual(Desk("units u\nbase m\nformulas f on u\n\n").get_formulas("f").text, "\n")
        self.assertEqual(Desk("units u\nbase m\nformulas f on u\n").get_formulas("f").names, ())

    def test_small_items(self):
        desk = Desk("sizes z\nunknown q w e x\nequal 3 1\nequal 04/6 x^2 q x\n" + "units u\nbase m\n"
                    + "record r on u\nletter x 1\nvalue m^2 m^-2\n")
        self.assertEqual(desk.get_sizes("z"), (((0, 0, 0, 0), (1, 0, 0, 3)), ((3, 1), (2, 3))))
        self.assertEqual((desk.get_record("r").exponents, desk.get_record("r").result), (((0,),), (0,)))
        self.assertEqual(desk.get_record("r").rows, ())

    def test_formulas_that_look_like_heads(self):
        # Only a word of a head line at the beginning of a line, with a blank behind it, begins an item.
        text = "units u\nbase m\nformulas f on u\n units = 3\nrecord(a) = a * units\nsizes= 4\n"
        desk = Desk(text)
        self.assertEqual(desk.get_formulas("f").names, ("units", "record", "sizes"))
        self.assertEqual(desk.lines(), text)
        self.wrong("units u\nbase m\nformulas f on u\nunits ~= 3\n")

    def test_names_of_items(self):
        # Items have names of their own, which may be those of units, of formulas and of words of head lines.
        text = "units units\nbase m\nformulas m on units\nm1 = 3 [m]\nsizes sizes\nunknown m\nequal 2 m\n"
        self.assertEqual(Desk(text).item_names(), ("units", "m", "sizes"))


class Heads(Case):
    def test_ahead_of_the_first_head(self):
        for text in ("~base m\nunits u\nbase m\n", "~\n", "~\nunits u\nbase m\n", "~ units u\nbase m\n", "~Units u\n",
                     "~unit u\n", "~units=u\n"):
            self.wrong(text, UNITS)

    def test_wrong_words(self):
        heads = ("units ~", "units ~U", "units ~1", "units ~abcdefghijklm", "units u ~on", "units u ~ ", "units u ~u",
                 "sizes ~", "sizes ~a.b", "sizes z ~on u", "formulas ~", "formulas ~F on u", "formulas f ~",
                 "formulas f ~in u", "formulas f ~u", "formulas f on ~", "formulas f on ~U", "formulas f on ~u^2",
                 "formulas f on u ~v", "formulas f ~ on u", "formulas ~ f on u", "record ~", "record ~_ on u",
                 "record r ~", "record r ~On u", "record r on ~", "record r on ~abcdefghijklm", "record r on u ~ ",
                 "record r on u ~on")
        for head in heads:
            self.wrong(head + "\n", UNITS)
            self.wrong("units first\nbase m\n" + head + "\n")
            self.wrong(head + "\nsizes z\nwrong\n")

    def test_names_that_are_there(self):
        self.wrong("units u\nbase m\nunits ~u\nbase m\n", UNITS)
        self.wrong("sizes z\nunknown a\nequal 1 a\nunits u\nbase m\nrecord ~z on u\n")
        self.wrong("formulas f on u\nrecord ~f on\n")
        # A name that the desk has is none that the text has.
        desk = Desk(UNITS)
        desk.put("units u\nbase q\n")
        self.assertEqual(desk.lines(), "units u\nbase q\n")

    def test_heads_ahead_of_bodies(self):
        self.wrong("units u\nwrong\nsizes z\nwrong\nformulas f ~of u\n")
        self.wrong("units u\nwrong\nformulas f on none\n=\nsizes ~\n")
        self.wrong("units u\nwrong\nunits ~u\n")


class Bodies(Case):
    def test_units_ahead_of_all_others(self):
        self.wrong("sizes z\nwrong\nformulas f on none\n=\nunits u\nbase ~M\n")
        self.wrong("record r on none\nunits u\nbase m\nunits v\n~bas\nunits w\nwrong\n")
        raised(self, NoName, ("none",), Desk, "formulas f on none\n=\nsizes z\nwrong\nunits u\nbase m\n")
        # Then each item in order.
        self.wrong("sizes z\n~wrong\nformulas f on none\n=\nunits u\nbase m\n")

    def test_units(self):
        self.wrong("sizes z\nunknown a\nequal 1 a\nunits u\nbase m\nunit k 1 ~n\n")
        self.wrong("units u\n~\n")
        self.wrong("units u\nbase m\n~\n")
        raised(self, BadText, (2, 1), Desk, "units u\n")
        raised(self, BadText, (2, 1), Desk, "units u")
        raised(self, BadText, (3, 1), Desk, "sizes z\nunits u\nformulas f on u\n")

    def test_no_units(self):
        for kind in ("formulas", "record"):
            for name in ("v", "f", "z", "q"):
                text = f"units u\nbase m\nsizes z\nunknown a\nequal 1 a\n{kind} q on {name}\nwrong wrong\n"
                raised(self, NoName, (name,), Desk, text)
                self.put_wrong(NoName, (name,), text, FORMULAS.replace("u\n", "w\n", 1) + UNITS.replace("u\n", "w\n", 1))
        # The units that are asked for may be at the desk, or come with a later line of the text.
        desk = Desk(UNITS)
        desk.put("formulas f on u\n")
        desk.put("formulas g on v\nunits v\nbase q\n")
        self.assertEqual(desk.get_formulas("g").units.base, ("q",))

    def test_formulas(self):
        ahead = "units u\nbase m\nformulas f on u\n"
        for line, column in (("a = ", 5), ("a = 1 +", 8), ("a = 1 [k]", 8), ("A = 1", 1), ("a = b", 5)):
            for blank in ("", "b1 = 2\n\n"):
                place = (4 + blank.count("\n"), column)
                raised(self, BadText, place, Desk, ahead + blank + line + "\n")
                raised(self, BadText, place, Desk, ahead + blank + line)
        raised(self, TooDeep, (50,), Desk, ahead + "a = " + "(" * 51 + "1" + ")" * 51)

    def test_records(self):
        head = "units u\nbase m s\nunit km 1000 m\nscale c m 1 2\nrecord r on u\n"
        for body in ("~\n", "~letters x m\n", "~value m\n", "letter ~\n", "letter ~X m\n", "letter x ~\n", "letter x ~n\n",
                     "letter x ~c\n", "letter x 1 ~m\n", "letter x m ~1\n", "letter x ~m^\n",
                     "letter x m ~s^100\n", "letter x m ~ s\n", "letter x m\nletter ~x s\n", "letter x m\n~row 1 2\n",
                     "letter x m\n~\n", "letter x m\nvalue ~\n", "letter x m\nvalue ~n\n", "letter x m\nvalue m ~1\n",
                     "letter x m\nvalue m\n~letter y m\n", "letter x m\nvalue m\n~value m\n",
                     "letter x m\nvalue m\nrow ~\n", "letter x m\nvalue m\nrow 1 ~\n", "letter x m\nvalue m\nrow 1 2 ~3\n",
                     "letter x m\nvalue m\nrow ~0 2\n", "letter x m\nvalue m\nrow ~-1 2\n",
                     "letter x m\nvalue m\nrow ~a 2\n", "letter x m\nvalue m\nrow 1 ~2/0\n",
                     "letter x m\nvalue m\nrow 1 2\nrow 1 ~2.5\n", "letter x m\nletter y 1\nvalue m\nrow 1 ~0 3\n",
                     "letter x m\nvalue m\nrow 1 2\n~\n", "letter x m\nvalue m\nrow 1 2 ~ \n",
                     "letter x m\nvalue m\nrow ~" + "1" * 4001 + " 2\n"):
            self.wrong(head + body, UNITS)
        self.assertEqual(Desk(head + "letter x m\nvalue m\nrow 1 0\nrow 1 -2/6\n").get_record("r").rows[1][1], (-1, 3))

    def test_records_that_end_too_early(self):
        head = "units u\nbase m\nrecord r on u\n"
        for body in ("", "letter x m\n", "letter x m\nletter y m\n"):
            place = (4 + body.count("\n"), 1)
            for more in ("", "sizes z\nunknown a\nequal 1 a\n"):
                raised(self, BadText, place, Desk, head + body + more)
                self.put_wrong(BadText, place, head + body + more)

    def test_sizes(self):
        for body in ("~\n", "~equal 1 a\n", "unknown ~\n", "unknown ~A\n", "unknown a ~a\n", "unknown a b c d ~e\n",
                     "unknown a ~ \n", "unknown a\n~unknown b\n", "unknown a\n~\n",
                     "unknown a\nequal ~\n", "unknown a\nequal ~a a\n", "unknown a\nequal ~0 a\n",
                     "unknown a\nequal ~-1 a\n", "unknown a\nequal 1 ~\n", "unknown a\nequal 1 ~b\n",
                     "unknown a\nequal 1 1 ~a\n", "unknown a\nequal 1 a ~1\n", "unknown a\nequal 1 a ~a^100\n",
                     "unknown a\nequal 1 a\n~row 1\n", "unknown a\nequal 1 a\nequal 1 ~m\n"):
            self.wrong("units u\nbase m\nsizes z\n" + body, UNITS)
        for body in ("", "unknown a\n"):
            place = (2 + body.count("\n"), 1)
            raised(self, BadText, place, Desk, "sizes z\n" + body)
            raised(self, BadText, place, Desk, "sizes z\n" + body + UNITS)

    def test_each_wrong_word(self):
        # Each word in turn is made one that is wrong anywhere; the words ahead of it stay right.
        text = "".join([UNITS, RECORD, SIZES])
        lines = text.split("\n")[:-1]
        for number, line in enumerate(lines, 1):
            words = line.split(" ")
            for at in range(len(words)):
                changed = " ".join(words[:at] + ["?"] + words[at + 1:])
                wrong = "\n".join(lines[:number - 1] + [changed] + lines[number:])
                if changed.startswith("?") and words[0] in ("units", "record", "sizes"):
                    # Without its head line an item's lines belong to the item ahead of it, if there is one.
                    continue
                raised(self, BadText, (number, at + 1), Desk, wrong)

    def test_long_file(self):
        text = "units u\nbase m\n" + "".join([f"record r{k} on u\nletter x m\nvalue m\nrow {k + 1} 2\n" for k in range(11)])
        desk = called(self, Desk, text)
        self.assertEqual(len(desk.item_names()), 12)
        self.assertEqual(desk.get_record("r10").rows, ((((11, 1),), (2, 1)),))


if __name__ == "__main__":
    unittest.main()
