"""Points [95] to [97]: edits of a desk, attempts, trials, undo and redo."""

import unittest

from allscales.desk import Desk
from allscales.errors import (BadName, BadNumber, BadText, NoName, NothingToRedo, NothingToUndo, NotKept, TakenName,
                              TooDeep)
from allscales.inference import Clash, General
from allscales.quotients import letter_of
from allscales.records import Contradiction
from support import NO_INTEGERS, NO_TEXTS, raised, shown

FILE = """units u
base m s
unit km 1000 m
formulas f on u
twice(a) = 2 * a
speed(x[km], t[s]) = x / t
record r on u
letter x km
letter t s
value m s^-1
row 1 2 500
sizes z
unknown a
equal 2 a
"""
NO_NEW_NAMES = NO_TEXTS + ("", "A", "1", "a b", "a^2", "abcdefghijklm", "a.b", "_")
KEPT = ("f.speed text m , s to m s^-1", "r settles 2 2 at 1000", "z holds", "r letter x power 1")


class Odd(BaseException):
    """An error of another kind."""


class Case(unittest.TestCase):
    def setUp(self):
        self.desk = Desk(FILE)

    def state(self):
        desk = self.desk
        contents = []
        for name in desk.item_names():
            for get in (desk.get_units, desk.get_formulas, desk.get_record, desk.get_sizes):
                try:
                    contents.append((name, get.__name__, shown_content(get(name))))
                except NoName:
                    pass
        return shown((desk.lines(), desk.item_names(), desk.promises(), contents))

    def refused(self, error, fields, call, *given):
        """Fails unless a call raises this error, and changes nothing at the desk."""
        before = self.state()
        past = self.past()
        raised(self, error, fields, call, *given)
        self.assertEqual(self.state(), before)
        self.assertEqual(self.past(), past)

    def past(self):
        """All that can be undone and done again."""
        states = []
        many = 0
        while self.can(self.desk.undo, NothingToUndo):
            states.append(self.state())
            many += 1
        for _ in range(many):
            self.desk.redo()
        more = 0
        while self.can(self.desk.redo, NothingToRedo):
            states.append(self.state())
            more += 1
        for _ in range(more):
            self.desk.undo()
        return (many, more, states)

    def can(self, call, error):
        try:
            self.assertIsNone(call())
        except error:
            return False
        return True

    def edits(self, *calls):
        """Fails unless each call is one edit: undo and redo lead back and forth."""
        for call, given in calls:
            before = self.state()
            self.assertIsNone(call(*given))
            after = self.state()
            raised(self, NothingToRedo, (), self.desk.redo)
            self.desk.undo()
            self.assertEqual(self.state(), before)
            self.desk.redo()
            self.assertEqual(self.state(), after)

    def body(self, name):
        """The lines of an item but its head line."""
        found = None
        for line in self.desk.lines().split("\n")[:-1]:
            if line.split(" ")[0] in ("units", "formulas", "record", "sizes"):
                found = line.split(" ")[1]
            elif found == name:
                yield line


def shown_content(content):
    """What there is to be seen of the content of an item."""
    if isinstance(content, tuple):
        return content
    if hasattr(content, "base"):
        return (content.text, content.base, content.names)
    if hasattr(content, "names"):
        return (content.text, content.units.text, content.names)
    return (content.exponents, content.result, content.rows, content.orbits)


class Put(Case):
    def test_a_new_item(self):
        self.edits((self.desk.put, ("sizes y\nunknown b\nequal 3 b\nunits v\nbase q\n",)))
        self.assertEqual(self.desk.item_names(), ("u", "f", "r", "z", "y", "v"))
        self.assertEqual(self.desk.lines(), FILE + "sizes y\nunknown b\nequal 3 b\nunits v\nbase q\n")

    def test_in_the_place_of_an_item(self):
        self.edits((self.desk.put, ("sizes y\nunknown b\nequal 3 b\nsizes f\nunknown q\nequal 1 q\n",)))
        self.assertEqual(self.desk.item_names(), ("u", "f", "r", "z", "y"))
        self.assertEqual(self.desk.get_sizes("f"), (((1,),), ((1, 1),)))
        raised(self, NoName, ("f",), self.desk.get_formulas, "f")

    def test_the_empty_text_is_an_edit(self):
        self.edits((self.desk.put, ("",)))
        self.assertEqual(self.desk.lines(), FILE)
        self.desk.undo()
        raised(self, NothingToUndo, (), self.desk.undo)

    def test_items_are_read_again(self):
        self.edits((self.desk.put, ("units u\nbase s m\nunit km 3 m^2\n",)))
        self.assertEqual(self.desk.get_formulas("f").told_units("speed"), ((0, 2), (1, 0), None))
        self.assertEqual(self.desk.get_formulas("f").units.base, ("s", "m"))
        record = self.desk.get_record("r")
        self.assertEqual((record.exponents, record.result), (((0, 2), (1, 0)), (-1, 1)))
        self.assertEqual(record.rows, ((((3, 1), (2, 1)), (500, 1)),))

    def test_errors_of_items_that_are_read_again(self):
        # Lines of the text are counted in it, those of items at the desk from their head lines.
        self.refused(BadText, (2, 9), self.desk.put, "units u\nbase m s\n")
        self.refused(BadText, (1, 3), self.desk.put, "units u\nbase m s\nformulas f on u\n")
        self.refused(BadText, (5, 10), self.desk.put, "units u\nbase m s\nformulas f on u\n\na(b) = 1[k]\n")
        self.refused(BadText, (2, 3), self.desk.put, "units u\nbase m\nunit km 10 m\nformulas f on u\n"
                                                    "record q on u\nletter x m\nvalue m\n")
        self.refused(NoName, ("u",), self.desk.put, "sizes u\nunknown a\nequal 1 a\n")
        self.refused(NoName, ("u",), self.desk.put, "formulas u on u\n")
        self.refused(BadText, (2, 1), self.desk.put, "sizes u\nbase m\n")
        self.refused(BadText, (5, 1), self.desk.put, "sizes y\nunknown a\nequal 1 a\nsizes u\nbase m\n")

    def test_the_order_of_the_desk(self):
        # New units are read first, then all others in the order that the desk has then.
        text = "sizes y\nwrong\nsizes z\nwrong\nunits v\nwrong\n"
        self.refused(BadText, (6, 1), self.desk.put, text)
        self.refused(BadText, (4, 1), self.desk.put, text.replace("v\nwrong", "v\nbase q"))
        self.refused(NoName, ("w",), self.desk.put, "sizes z\nwrong\nformulas f on w\n")
        self.refused(BadText, (4, 1), self.desk.put, "sizes f\nunknown a\nequal 1 a\nbase m\nsizes z\nwrong\n")
        # The formulas at the desk stand ahead of what comes behind the last item.
        self.refused(BadText, (2, 9), self.desk.put, "sizes a\nwrong\nunits u\nbase m s\n")

    def test_heads_first(self):
        self.refused(BadText, (3, 2), self.desk.put, "units u\nwrong\nsizes Z\n")
        self.refused(BadText, (1, 1), self.desk.put, "base m\nunits u\nwrong\n")
        for value in NO_TEXTS:
            self.refused(BadText, (0, 0), self.desk.put, value)


class Edit(Case):
    def test_lines(self):
        self.edits((self.desk.edit, ("f", 1, "thrice(a) = 3 * a")))
        self.assertEqual(list(self.body("f")), ["thrice(a) = 3 * a", "speed(x[km], t[s]) = x / t"])
        self.edits((self.desk.edit, ("f", 2, "")))
        self.assertEqual(self.desk.get_formulas("f").names, ("thrice",))
        self.edits((self.desk.edit, ("f", 2, "a = 1\n\nb = a + 1\n")))
        self.assertEqual(list(self.body("f")), ["thrice(a) = 3 * a", "a = 1", "", "b = a + 1"])
        self.edits((self.desk.edit, ("f", 3, "\n")))
        self.assertEqual(list(self.body("f")), ["thrice(a) = 3 * a", "a = 1", "", "b = a + 1"])
        self.edits((self.desk.edit, ("f", 4, "")), (self.desk.edit, ("f", 1, "")), (self.desk.edit, ("f", 1, "")))
        self.assertEqual(list(self.body("f")), [""])
        self.edits((self.desk.edit, ("f", 1, "")), (self.desk.edit, ("f", 1, "")), (self.desk.edit, ("f", 1, "c = 2")))
        self.assertEqual(list(self.body("f")), ["c = 2"])

    def test_each_kind(self):
        self.edits((self.desk.edit, ("r", 5, "row 1 1 7")))
        self.assertEqual(self.desk.get_record("r").rows[1], (((1000, 1), (1, 1)), (7, 1)))
        self.edits((self.desk.edit, ("r", 1, "letter x s")))
        self.assertEqual(self.desk.get_record("r").exponents, ((0, 1), (0, 1)))
        self.edits((self.desk.edit, ("z", 3, "equal 4 a^2\n")))
        self.assertEqual(self.desk.get_sizes("z")[0], ((1,), (2,)))
        self.edits((self.desk.edit, ("u", 2, "unit km 5 s")))
        self.assertEqual(self.desk.get_units("u").size_of("km"), (5, 1))
        self.assertEqual(self.desk.get_record("r").exponents, ((0, 1), (0, 1)))
        self.assertEqual(self.desk.get_formulas("f").told_units("speed")[0], (0, 1))

    def test_items_on_edited_units(self):
        self.refused(BadText, (2, 9), self.desk.edit, "u", 2, "unit k 1 m")
        self.desk.edit("f", 2, "")
        self.refused(BadText, (1, 3), self.desk.edit, "u", 2, "")
        self.refused(BadText, (2, 2), self.desk.edit, "u", 2, "unit m 1 m")
        self.desk.edit("r", 1, "letter x m")
        self.edits((self.desk.edit, ("u", 2, "")))

    def test_errors(self):
        for value in NO_TEXTS:
            self.refused(BadName, (value,), self.desk.edit, value, 0, None)
            self.refused(BadText, (0, 0), self.desk.edit, "none", 0, value)
        for name in ("none", "", "U", "km", "units"):
            self.refused(NoName, (name,), self.desk.edit, name, 0, "wrong")
        for number in NO_INTEGERS + (0, -1, 4, 10 ** 30):
            self.refused(BadNumber, ("line", number), self.desk.edit, "z", number, "wrong")
        self.desk.edit("z", 3, "equal 2 a")
        self.refused(BadText, (1, 1), self.desk.edit, "z", 1, "")
        self.refused(BadText, (4, 1), self.desk.edit, "z", 4, "\n")
        self.refused(BadText, (3, 2), self.desk.edit, "z", 3, "equal 0 a")
        self.refused(BadText, (2, 1), self.desk.edit, "u", 2, "base m")
        self.refused(BadText, (5, 1), self.desk.edit, "r", 5, "value m")
        self.refused(BadText, (1, 12), self.desk.edit, "f", 1, "twice(a) = b")
        self.refused(TooDeep, (50,), self.desk.edit, "f", 1, "a = " + "(" * 51 + "1" + ")" * 51)

    def test_lines_that_begin_as_heads(self):
        for word in ("units", "formulas", "record", "sizes"):
            for line in (word + " = 3", word, word + " q", word + " q on u"):
                for name, last in (("u", 2), ("r", 4), ("z", 2)):
                    for number in (1, last, last + 1):
                        self.refused(BadText, (number, 1), self.desk.edit, name, number, line)
                for number in (1, 2, 3):
                    self.refused(BadText, (number, 1), self.desk.edit, "f", number, line)
                # It goes ahead of the errors of formulas, in whatever line.
                self.refused(BadText, (3, 1), self.desk.edit, "f", 1, "wrong\n\n" + line)
            self.edits((self.desk.edit, ("f", 3, " " + word + " = 3")), (self.desk.edit, ("f", 3, word + "= 4")))


class Drop(Case):
    def test_drop(self):
        self.desk.keep("z holds")
        self.desk.keep("f.twice text m to m")
        self.desk.keep("r possible")
        self.edits((self.desk.drop, ("f",)))
        self.assertEqual(self.desk.promises(), ("z holds", "r possible"))
        self.edits((self.desk.drop, ("z",)), (self.desk.drop, ("r",)), (self.desk.drop, ("u",)))
        self.assertEqual((self.desk.lines(), self.desk.promises()), ("", ()))
        self.desk.undo()
        self.desk.undo()
        self.assertEqual((self.desk.item_names(), self.desk.promises()), (("u", "r"), ("r possible",)))

    def test_names_that_begin_alike(self):
        self.desk.put("sizes zz\nunknown a\nequal 3 a\nsizes fz\nunknown a\nequal 1 a\nsizes f1\nunknown a\nequal 1 a\n")
        for promise in ("zz holds", "z holds", "f1 holds", "f.twice text m to m", "fz holds"):
            self.desk.keep(promise)
        self.desk.drop("z")
        self.desk.drop("f")
        self.assertEqual(self.desk.promises(), ("zz holds", "f1 holds", "fz holds"))

    def test_errors(self):
        for value in NO_TEXTS:
            self.refused(BadName, (value,), self.desk.drop, value)
        for name in ("none", "", "Z", "z holds"):
            self.refused(NoName, (name,), self.desk.drop, name)
        self.refused(TakenName, ("f",), self.desk.drop, "u")
        self.desk.put("record e on u\nletter x m\nvalue m\n")
        self.desk.drop("f")
        self.refused(TakenName, ("r",), self.desk.drop, "u")
        self.desk.drop("r")
        self.refused(TakenName, ("e",), self.desk.drop, "u")


class Rename(Case):
    def test_units(self):
        self.edits((self.desk.rename, ("u", "units")))
        self.assertEqual(self.desk.lines(), FILE.replace("units u", "units units").replace("on u\n", "on units\n"))
        self.refused(BadText, (1, 1), self.desk.edit, "units", 1, "")
        self.edits((self.desk.edit, ("units", 2, "unit km 7 m")))
        self.assertEqual(self.desk.get_record("r").rows[0][0][0], (7, 1))
        self.refused(TakenName, ("f",), self.desk.drop, "units")

    def test_promises(self):
        for promise in KEPT + ("f.twice text m to m", "f.twice worth s to s"):
            self.desk.keep(promise)
        self.edits((self.desk.rename, ("f", "twice")), (self.desk.rename, ("r", "settles")), (self.desk.rename, ("z", "z1")))
        self.assertEqual(self.desk.promises(), ("twice.speed text m , s to m s^-1", "settles settles 2 2 at 1000",
                                                "z1 holds", "settles letter x power 1", "twice.twice text m to m",
                                                "twice.twice worth s to s"))
        self.assertEqual(self.desk.item_names(), ("u", "twice", "settles", "z1"))
        self.assertEqual(self.desk.broken(), ())
        # The name that has become free is free.
        self.desk.rename("twice", "z")
        self.desk.rename("z1", "f")
        self.assertEqual(self.desk.promises()[2:5], ("f holds", "settles letter x power 1", "z.twice text m to m"))

    def test_names_that_begin_alike(self):
        self.desk.put("sizes zz\nunknown z\nequal 3 z\nsizes y\nunknown z\nequal 3 z\n")
        for promise in ("zz sets z at 3", "z holds", "y sets z at 3"):
            self.desk.keep(promise)
        self.desk.rename("z", "a")
        self.assertEqual(self.desk.promises(), ("zz sets z at 3", "a holds", "y sets z at 3"))

    def test_errors(self):
        for value in NO_NEW_NAMES:
            self.refused(BadName, (value,), self.desk.rename, "none", value)
            self.refused(BadName, (value,), self.desk.rename, None, value)
        for value in NO_TEXTS:
            self.refused(BadName, (value,), self.desk.rename, value, "u")
        for name in ("none", "", "Z"):
            self.refused(NoName, (name,), self.desk.rename, name, "u")
        for name, new in (("u", "f"), ("f", "u"), ("z", "z"), ("u", "u")):
            self.refused(TakenName, (new,), self.desk.rename, name, new)


class Promises(Case):
    def test_keep_and_release(self):
        for promise in KEPT:
            self.edits((self.desk.keep, (promise,)))
        self.assertEqual(self.desk.promises(), KEPT)
        # What is made already is not made twice, but it is an edit.
        self.edits((self.desk.keep, (KEPT[1],)))
        self.assertEqual(self.desk.promises(), KEPT)
        self.edits((self.desk.release, (KEPT[1],)))
        self.assertEqual(self.desk.promises(), KEPT[:1] + KEPT[2:])
        self.edits((self.desk.keep, (KEPT[1],)))
        self.assertEqual(self.desk.promises(), KEPT[:1] + KEPT[2:] + KEPT[1:2])
        for promise in ("z sets a at 2", "z  holds", "", "none"):
            self.refused(NoName, (promise,), self.desk.release, promise)

    def test_equal_in_all_but_the_text(self):
        self.desk.keep("z sets a at 2")
        self.desk.keep("z sets a at 4/2")
        self.assertEqual(self.desk.promises(), ("z sets a at 2", "z sets a at 4/2"))
        self.desk.release("z sets a at 2")
        self.assertEqual(self.desk.promises(), ("z sets a at 4/2",))

    def test_each_edit_keeps_all_promises(self):
        for promise in KEPT:
            self.desk.keep(promise)
        self.not_kept(KEPT[1], Contradiction, self.desk.edit, "r", 5, "row 1 2 501")
        self.not_kept(KEPT[0], General, self.desk.edit, "f", 2, "speed(a, b) = a * b")
        self.not_kept(KEPT[0], Clash, self.desk.edit, "f", 2, "speed(a, b) = a * b + a * b * 1[m]")
        # Several that are not kept: the first one in the order in which they were made.
        self.not_kept(KEPT[1], Contradiction, self.desk.put, "sizes z\nunknown a\nequal 1 a\nequal 2 a\n"
                                                             "record r on u\nletter x m\nletter t s\nvalue m s^-1\n"
                                                             "row 1 1 1\nrow 1 1 2\n")
        self.assertEqual(self.desk.promises(), KEPT)

    def not_kept(self, promise, kind, call, *given):
        before = self.state()
        with self.assertRaises(NotKept) as caught:
            call(*given)
        self.assertEqual(caught.exception.promise, promise)
        self.assertIs(caught.exception.witness.__class__, kind)
        self.assertEqual(self.state(), before)

    def test_promises_that_can_no_longer_be_asked(self):
        for promise in KEPT:
            self.desk.keep(promise)
        self.refused(NoName, ("speed",), self.desk.edit, "f", 2, "")
        self.refused(BadNumber, ("units", 2), self.desk.edit, "f", 2, "speed(a) = a")
        self.refused(NoName, ("r",), self.desk.put, "sizes r\nunknown a\nequal 1 a\n")
        self.refused(BadNumber, ("inputs", 2), self.desk.put, "record r on u\nletter x m\nvalue m\n")
        self.refused(NoName, ("z",), self.desk.put, "formulas z on u\n")
        # The promise that was made first decides, whatever is wrong with it.
        self.refused(NoName, ("speed",), self.desk.put, "formulas f on u\nsizes r\nunknown a\nequal 1 a\n")
        self.desk.keep("f.twice text km to km")
        for promise in KEPT[:2] + KEPT[3:]:
            self.desk.release(promise)
        self.desk.drop("r")
        self.desk.edit("f", 2, "")
        with self.assertRaises(Exception) as caught:
            self.desk.edit("u", 2, "")
        self.assertEqual(shown(caught.exception.__dict__), shown({"name": "km"}))

    def test_errors_ahead_of_promises(self):
        self.desk.keep("z holds")
        self.refused(BadText, (5, 1), self.desk.put, "sizes z\nunknown a\nequal 1 a\nequal 2 a\nwrong\n")


class Attempts(Case):
    def test_promises_at_the_end_alone(self):
        self.desk.keep("z sets a at 2")

        def action(desk):
            self.assertIs(desk, self.desk)
            self.assertIsNone(desk.edit("z", 2, "equal 3 a"))
            self.assertEqual(desk.broken(), (("z sets a at 2", (1, 1, (3, 1))),))
            self.assertEqual(desk.kept("z sets a at 2"), (False, (1, 1, (3, 1))))
            desk.keep("z sets a at 7")
            desk.release("z sets a at 7")
            desk.edit("z", 2, "equal 4 a^2")
            return ["what", "it", "returns"]

        before = self.state()
        past = self.past()[0]
        self.assertEqual(self.desk.attempt(action), ["what", "it", "returns"])
        self.assertEqual(list(self.body("z")), ["unknown a", "equal 4 a^2"])
        self.assertEqual(self.past()[0], past + 1)
        self.desk.undo()
        self.assertEqual(self.state(), before)

    def test_not_kept_at_the_end(self):
        self.desk.keep("z holds")
        self.desk.keep("z sets a at 2")

        def action(desk):
            desk.put("sizes y\nunknown b\nequal 3 b\n")
            desk.keep("y holds")
            desk.edit("z", 2, "equal 3 a")
            return 5

        before = self.state()
        past = self.past()
        raised(self, NotKept, ("z sets a at 2", (1, 1, (3, 1))), self.desk.attempt, action)
        self.assertEqual((self.state(), self.past()), (before, past))
        raised(self, NoName, ("z",), self.desk.attempt, lambda desk: desk.put("formulas z on u\n"))
        self.assertEqual((self.state(), self.past()), (before, past))

    def test_keep_raises_at_once(self):
        def action(desk):
            desk.keep("z sets a at 9")
            raised(self, NoName, ("none",), desk.keep, "none holds")
            raised(self, BadText, (1, 2), desk.keep, "z")
            return desk.promises()

        self.assertEqual(self.desk.trial(action), ("z sets a at 9",))
        raised(self, NotKept, ("z sets a at 9", (1, 1, (2, 1))), self.desk.attempt, action)
        self.assertEqual(self.desk.promises(), ())

    def test_errors_of_each_kind(self):
        def failing(error):
            def action(desk):
                desk.drop("z")
                desk.undo()
                desk.drop("r")
                raise error
            return action

        self.desk.drop("z")
        self.desk.undo()
        for error in (NoName("a"), ValueError("a"), KeyError(1), ZeroDivisionError(), Odd(), KeyboardInterrupt(),
                      SystemExit(3), StopIteration(), GeneratorExit()):
            for call in (self.desk.attempt, self.desk.trial):
                before = self.state()
                past = self.past()
                with self.assertRaises(error.__class__) as caught:
                    call(failing(error))
                self.assertIs(caught.exception, error)
                self.assertEqual((self.state(), self.past()), (before, past))
                # Behind it the desk looks at promises again.
                raised(self, NotKept, ("z sets a at 9", (1, 1, (2, 1))), self.desk.keep, "z sets a at 9")

    def test_an_attempt_without_an_edit(self):
        self.desk.drop("z")
        self.desk.undo()
        self.assertIsNone(self.desk.attempt(lambda desk: None))
        raised(self, NothingToRedo, (), self.desk.redo)
        self.desk.undo()
        raised(self, NothingToUndo, (), self.desk.undo)
        self.desk.redo()
        raised(self, NothingToRedo, (), self.desk.redo)

    def test_a_history_of_its_own(self):
        self.desk.drop("z")
        self.desk.drop("r")
        self.desk.undo()

        def action(desk):
            raised(self, NothingToUndo, (), desk.undo)
            raised(self, NothingToRedo, (), desk.redo)
            desk.drop("f")
            desk.put("sizes y\nunknown b\nequal 3 b\n")
            desk.undo()
            desk.undo()
            raised(self, NothingToUndo, (), desk.undo)
            desk.redo()
            return desk.item_names()

        for call in (self.desk.trial, self.desk.attempt):
            self.assertEqual(call(action), ("u", "r"))
        self.assertEqual(self.desk.item_names(), ("u", "r"))
        raised(self, NothingToRedo, (), self.desk.redo)
        self.desk.undo()
        self.assertEqual(self.desk.item_names(), ("u", "f", "r"))
        self.desk.undo()
        self.assertEqual(self.desk.lines(), FILE)
        self.desk.redo()
        self.desk.redo()
        self.assertEqual(self.desk.item_names(), ("u", "r"))

    def test_attempts_within_attempts(self):
        self.desk.keep("z sets a at 2")

        def inner(desk):
            desk.edit("z", 2, "equal 3 a")
            return desk.lines()

        def outer(desk):
            before = desk.lines()
            inside = desk.attempt(inner)
            self.assertEqual(desk.lines(), inside)
            self.assertEqual(len(desk.broken()), 1)
            desk.undo()
            self.assertEqual(desk.lines(), before)
            desk.redo()
            self.assertEqual(desk.lines(), inside)
            raised(self, BadText, (2, 1), desk.attempt, lambda other: other.edit("z", 2, ""))
            self.assertEqual(desk.lines(), inside)
            with self.assertRaises(Odd):
                desk.attempt(self.odd)
            self.assertEqual(desk.lines(), inside)
            desk.edit("z", 2, "equal 8 a^3")
            return desk.undo

        call = self.desk.attempt(outer)
        self.assertEqual(call, self.desk.undo)
        self.assertEqual(list(self.body("z")), ["unknown a", "equal 8 a^3"])
        self.desk.undo()
        self.assertEqual(self.desk.lines(), FILE)
        raised(self, NotKept, ("z sets a at 2", (1, 1, (3, 1))), self.desk.attempt, lambda desk: desk.attempt(inner))

    def odd(self, desk):
        desk.drop("z")
        raise Odd()

    def test_two_wrong_at_once(self):
        # An error of the function goes ahead of promises that are not kept.
        self.desk.keep("z sets a at 2")

        def action(desk):
            desk.edit("z", 2, "equal 3 a")
            desk.drop("none")

        before = self.state()
        raised(self, NoName, ("none",), self.desk.attempt, action)
        self.assertEqual(self.state(), before)


class Trials(Case):
    def test_all_is_as_it_was(self):
        self.desk.keep("z sets a at 2")
        self.desk.drop("r")
        self.desk.undo()
        before = self.state()
        past = self.past()

        def action(desk):
            desk.edit("z", 2, "equal 3 a")
            desk.drop("r")
            desk.undo()
            desk.rename("f", "g")
            return (desk.item_names(), desk.broken())

        self.assertEqual(self.desk.trial(action), (("u", "g", "r", "z"), (("z sets a at 2", (1, 1, (3, 1))),)))
        self.assertEqual((self.state(), self.past()), (before, past))
        self.desk.redo()
        self.assertEqual(self.desk.item_names(), ("u", "f", "z"))

    def test_within_each_other(self):
        self.desk.keep("z sets a at 2")

        def spoil(desk):
            desk.edit("z", 2, "equal 3 a")
            return desk.lines()

        def both(desk):
            # An attempt in a trial looks at no promises.
            spoilt = desk.attempt(spoil)
            self.assertEqual(desk.lines(), spoilt)
            desk.drop("r")
            seen = desk.trial(lambda other: (other.undo, other.item_names()))
            self.assertEqual(desk.item_names(), ("u", "f", "z"))
            raised(self, NothingToUndo, (), desk.trial, lambda other: other.undo())
            desk.undo()
            desk.undo()
            raised(self, NothingToUndo, (), desk.undo)
            desk.redo()
            self.assertEqual(desk.lines(), spoilt)
            return seen[1]

        self.assertEqual(self.desk.trial(both), ("u", "f", "z"))
        self.assertEqual(self.desk.lines(), FILE)

        def outer(desk):
            spoilt = desk.trial(lambda other: other.attempt(spoil))
            self.assertNotEqual(desk.lines(), spoilt)
            self.assertEqual(desk.lines(), FILE)
            raised(self, NothingToUndo, (), desk.undo)
            desk.drop("f")
            return desk.trial(both_drop)

        def both_drop(desk):
            desk.drop("r")
            return desk.trial(lambda other: (other.drop("u"), other.item_names())[1])

        self.assertEqual(self.desk.attempt(outer), ("z",))
        self.assertEqual(self.desk.item_names(), ("u", "r", "z"))

    def test_promises_are_looked_at_again(self):
        self.desk.trial(lambda desk: desk.attempt(lambda other: None))
        raised(self, NotKept, ("z sets a at 9", (1, 1, (2, 1))), self.desk.keep, "z sets a at 9")


class UndoRedo(Case):
    def test_redo_is_gone_behind_a_new_edit(self):
        for edit in (lambda: self.desk.put(""), lambda: self.desk.edit("z", 3, ""), lambda: self.desk.drop("z"),
                     lambda: self.desk.rename("z", "y"), lambda: self.desk.keep("z holds"),
                     lambda: self.desk.attempt(lambda desk: 1)):
            self.desk.drop("r")
            self.desk.undo()
            edit()
            raised(self, NothingToRedo, (), self.desk.redo)
            self.desk.undo()
            self.assertEqual(self.desk.lines(), FILE)
        self.desk.keep("z holds")
        self.desk.drop("r")
        self.desk.undo()
        self.desk.release("z holds")
        raised(self, NothingToRedo, (), self.desk.redo)

    def test_what_raises_is_no_edit(self):
        self.desk.drop("r")
        self.desk.undo()
        for call, given in ((self.desk.put, ("wrong",)), (self.desk.edit, ("z", 9, "")), (self.desk.drop, ("u",)),
                            (self.desk.rename, ("z", "f")), (self.desk.keep, ("z sets a at 5",)),
                            (self.desk.release, ("z holds",)), (self.desk.attempt, (lambda desk: desk.drop("none"),)),
                            (self.desk.trial, (lambda desk: desk.drop("z"),))):
            try:
                call(*given)
            except ValueError:
                pass
        self.desk.redo()
        self.assertEqual(self.desk.item_names(), ("u", "f", "z"))

    def test_the_beginning(self):
        raised(self, NothingToUndo, (), self.desk.undo)
        raised(self, NothingToRedo, (), self.desk.redo)
        raised(self, NothingToUndo, (), Desk().undo)

    def test_undo_looks_at_no_promises(self):
        self.desk.edit("z", 2, "equal 3 a")
        self.desk.keep("z sets a at 3")

        def action(desk):
            desk.edit("z", 2, "equal 2 a")
            desk.undo()
            desk.redo()
            self.assertEqual(len(desk.broken()), 1)
            desk.undo()

        self.desk.attempt(action)
        self.desk.undo()
        self.desk.undo()
        self.assertEqual(self.desk.promises(), ())
        self.desk.undo()
        self.assertEqual(self.desk.lines(), FILE)
        self.desk.redo()
        self.desk.redo()
        self.assertEqual(self.desk.promises(), ("z sets a at 3",))


class Getters(Case):
    def test_names(self):
        calls = {"u": self.desk.get_units, "f": self.desk.get_formulas, "r": self.desk.get_record, "z": self.desk.get_sizes}
        for name, call in calls.items():
            self.assertIsNotNone(call(name))
            for other in calls:
                if other != name:
                    self.refused(NoName, (other,), call, other)
            for other in ("none", "", "U"):
                self.refused(NoName, (other,), call, other)
            for value in NO_TEXTS:
                self.refused(BadName, (value,), call, value)

    def test_formulas_are_on_their_units(self):
        self.assertEqual(self.desk.get_formulas("f").units.text, self.desk.get_units("u").text)
        self.assertEqual(self.desk.get_formulas("f").quotient("twice"), letter_of(1, 0) + letter_of(1, 0))

    def test_tuples(self):
        for found in (self.desk.item_names(), self.desk.promises(), self.desk.broken(), self.desk.get_sizes("z"),
                      self.desk.get_sizes("z")[0], self.desk.get_sizes("z")[1], self.desk.kept("z holds")):
            self.assertIs(found.__class__, tuple)


class Limits(Case):
    def test_twelve_items_and_promises(self):
        text = "units u\nbase m s kg\nunit n 1 kg m s^-2\n"
        promises = []
        for k in range(3):
            text += f"formulas f{k} on u\nfall(t[s]) = {k + 1} [m s^-2] * t^2\nwork(a, b) = a * b^{k + 1}\n"
            promises += [f"f{k}.fall text s to m", f"f{k}.work worth m , s to m s^{k + 1}"]
        for k in range(4):
            text += f"record r{k} on u\nletter x m\nletter y n\nletter z kg\nletter t s\nvalue m\n"
            text += "".join([f"row {j} {j} {j} {j} {j}\n" for j in range(1, 13)])
            promises += [f"r{k} letter x free"]
        for k in range(4):
            text += f"sizes z{k}\nunknown a b c d\nequal 6 a b\nequal 10 b c\nequal 15 c d\nequal 2 a\n"
        promises += ["z0 sets b at 3", "z1 sets d at 9/2"]
        desk = Desk(text)
        self.assertEqual(len(desk.item_names()), 12)
        for promise in promises:
            desk.keep(promise)
        self.assertEqual(len(desk.promises()), 12)
        self.assertEqual((desk.lines(), desk.broken()), (text, ()))
        desk.rename("u", "all")
        for k in range(30):
            desk.put(f"sizes z3\nunknown a\nequal {k + 1} a\n")
            desk.edit("all", 2, f"unit n {k + 1} kg m s^-2")
        for _ in range(60):
            desk.undo()
        self.assertEqual(desk.lines(), text.replace("units u", "units all").replace("on u", "on all"))


if __name__ == "__main__":
    unittest.main()
