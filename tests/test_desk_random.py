"""Points [91] to [96] at random: a desk beside a plain model that begins anew behind each call."""

import random
import unittest

from allscales.desk import Desk
from allscales.errors import NotKept, ScaleError
from support import shown

HEADS = ("units", "formulas", "record", "sizes")
NAMES = ("a", "b", "c", "d", "e")
BODIES = {
    "units": ("base m s", "base m s\nunit km 1000 m", "base m s\nunit k 2 m\nunit km 3 m s", "base q", "base s m\nunit km 5 m",
              "base M", ""),
    "formulas": ("f(x) = 2 * x", "f(x) = x^2\ng(x, y) = x * y", "f(x[m]) = x\ng(x, y) = x + y", "f(x[km])[m] = x",
                 "", "f(x) = y", "f(x) = 1 [k] * x", "g(x, y) = x - y\nf(x) = if x < x then x else 2 * x"),
    "record": ("letter x m\nvalue m\nrow 1 2", "letter x m\nvalue m\nrow 1 2\nrow 2 4", "letter x km\nvalue m^2\nrow 1 1",
               "letter x m\nvalue m\nrow 1 2\nrow 2 5", "letter x m\nletter y s\nvalue s\nrow 1 2 3", "value m",
               "letter x k\nvalue k^2"),
    "sizes": ("unknown x\nequal 2 x", "unknown x\nequal 4 x^2", "unknown x y\nequal 6 x y", "unknown x\nequal 2 x\nequal 3 x",
              "unknown x"),
}
PROMISES = ("{}.f text m to m", "{}.f text m to m^2", "{}.f worth m to m", "{}.f worth s to s^2", "{}.g text m , s to m s",
            "{}.g worth m , m to m", "{}.g text km , km to km", "{} possible", "{} letter x power 1", "{} letter x power 2",
            "{} settles 3 at 6", "{} settles 1 at 2", "{} letter y power 1", "{} holds", "{} sets x at 2",
            "{} sets x y at 6", "{} sets", "{}", "{}.f text to m")


FIRST = ("units a\nbase m s\nunit km 1000 m\nformulas b on a\nf(x) = 2 * x\ng(x, y) = x * y\n"
         "record c on a\nletter x m\nvalue m\nrow 1 2\nsizes d\nunknown x\nequal 2 x\n")


class Stop(Exception):
    """What a function raises of its own."""


class Model:
    """The items, tuples (kind, name, units, lines), and the promises; and those to undo and to redo, level by level."""

    def __init__(self):
        self.now = ((), ())
        self.levels = [([], [])]

    def text(self, items):
        found = ""
        for kind, name, units, lines in items:
            found += f"{kind} {name}" + (f" on {units}" if units else "") + "\n" + "".join([line + "\n" for line in lines])
        return found

    def checked(self, items, promises):
        """What comes behind an edit, or the error that is due."""
        fresh = Desk(self.text(items))
        if len(self.levels) == 1:
            for promise in promises:
                told = fresh.kept(promise)
                if not told[0]:
                    raise NotKept(promise, told[1])
        return (items, promises)

    def edit_to(self, items, promises):
        now = self.checked(tuple(items), tuple(promises))
        past, future = self.levels[-1]
        past.append(self.now)
        future.clear()
        self.now = now

    def item(self, name):
        return [item for item in self.now[0] if item[1] == name][0]

    def put(self, text):
        items = list(self.now[0])
        for item in items_of(text):
            places = [k for k, old in enumerate(items) if old[1] == item[1]]
            items[places[0] if places else len(items):(places[0] if places else len(items)) + 1] = [item]
        self.edit_to(items, self.now[1])

    def edit(self, name, number, text):
        items = []
        for item in self.now[0]:
            if item[1] == name:
                lines = list(item[3])
                lines[number - 1:number] = text.split("\n") if text else []
                item = item[:3] + (tuple(lines),)
            items.append(item)
        self.edit_to(items, self.now[1])

    def drop(self, name):
        self.edit_to([item for item in self.now[0] if item[1] != name],
                     [text for text in self.now[1] if text.replace(".", " ").split(" ")[0] != name])

    def rename(self, name, new):
        items = [(kind, new if old == name else old, new if units == name else units, lines)
                 for kind, old, units, lines in self.now[0]]
        promises = []
        for text in self.now[1]:
            words = text.split(" ")
            parts = words[0].split(".")
            if parts[0] == name:
                parts[0] = new
            promises.append(" ".join([".".join(parts)] + words[1:]))
        self.edit_to(items, promises)

    def keep(self, promise):
        Desk(self.text(self.now[0])).kept(promise)
        self.edit_to(self.now[0], self.now[1] + (() if promise in self.now[1] else (promise,)))

    def release(self, promise):
        self.edit_to(self.now[0], [text for text in self.now[1] if text != promise])

    def back(self, way):
        stacks = self.levels[-1] if way == "undo" else self.levels[-1][::-1]
        stacks[1].append(self.now)
        self.now = stacks[0].pop()


def items_of(text):
    items = []
    for line in text.split("\n")[:-1]:
        words = line.split(" ")
        if words[0] in HEADS:
            items.append((words[0], words[1], words[3] if len(words) > 2 else None, ()))
        else:
            items[-1] = items[-1][:3] + (items[-1][3] + (line,),)
    return items


class Walk:
    """A desk and a model that take the same calls."""

    def __init__(self, case, source):
        self.case, self.source = case, source
        self.desk, self.model = Desk(), Model()
        self.seen = {}

    def compare(self):
        desk, model = self.desk, self.model
        text = model.text(model.now[0])
        self.case.assertEqual(desk.lines(), text)
        self.case.assertEqual(desk.promises(), model.now[1])
        self.case.assertEqual(desk.item_names(), tuple([item[1] for item in model.now[0]]))
        fresh = Desk(text)
        try:
            wanted = [(promise, fresh.kept(promise)) for promise in model.now[1]]
        except ScaleError as error:
            with self.case.assertRaises(error.__class__) as caught:
                desk.broken()
            self.case.assertEqual(shown(caught.exception.__dict__), shown(error.__dict__))
            return
        self.case.assertEqual(shown(desk.broken()),
                              shown(tuple([(promise, told[1]) for promise, told in wanted if not told[0]])))

    def both(self, word, *given):
        """The same call of both; they raise the same error or none."""
        now = self.model.now
        try:
            getattr(self.model, word)(*given)
            error = None
        except ScaleError as caught:
            error = caught
            self.case.assertEqual(self.model.now, now)
        try:
            getattr(self.desk, word)(*given)
        except ScaleError as caught:
            self.case.assertIsNotNone(error, (word, given, caught.__class__, caught.__dict__))
            self.case.assertIs(caught.__class__, error.__class__, (word, given))
            if caught.__class__.__name__ != "BadText":
                self.case.assertEqual(shown(caught.__dict__), shown(error.__dict__))
        else:
            self.case.assertIsNone(error, (word, given))
        key = (word, error.__class__.__name__)
        self.seen[key] = self.seen.get(key, 0) + 1
        self.compare()

    def step(self, depth):
        source = self.source
        names = [item[1] for item in self.model.now[0]]
        word = source.choice(("put", "put", "edit", "edit", "edit", "drop", "rename", "keep", "keep", "keep", "keep", "release",
                              "undo", "undo", "redo", "attempt", "attempt", "trial"))
        if word == "put":
            self.both("put", self.some_items())
        elif word in ("undo", "redo"):
            self.back(word)
        elif word in ("attempt", "trial") and depth < 3:
            self.within(word, depth)
        elif word == "keep":
            self.both("keep", self.some_promise())
        elif word == "release" and self.model.now[1]:
            self.both("release", source.choice(self.model.now[1]))
        elif word == "edit" and names:
            item = self.model.item(source.choice(names))
            text = source.choice(("", source.choice(BODIES[item[0]]), source.choice(BODIES[item[0]]).split("\n")[-1]))
            self.both("edit", item[1], source.randint(1, len(item[3]) + 1), text)
        elif word == "drop" and names:
            name = source.choice(names)
            if name not in [item[2] for item in self.model.now[0]]:
                self.both("drop", name)
        elif word == "rename" and names:
            new = source.choice(NAMES + ("x1", "y1"))
            if new not in names:
                self.both("rename", source.choice(names), new)

    def some_promise(self):
        source = self.source
        if source.random() < 0.2 or not self.model.now[0]:
            return source.choice(PROMISES).format(source.choice(NAMES))
        kind, name, _, _ = source.choice(self.model.now[0])
        begins = {"formulas": "{}.", "record": "{} ", "sizes": "{} ", "units": "{}"}[kind]
        ends = {"formulas": ("",), "record": ("possible", "letter", "settles"), "sizes": ("holds", "sets "), "units": ("",)}
        fitting = [text for text in PROMISES if text.startswith(begins) and any([end in text for end in ends[kind]])]
        return source.choice(fitting).format(name)

    def some_items(self):
        source = self.source
        text = ""
        for name in source.sample(NAMES, source.choice((1, 1, 2, 3))):
            kind = source.choice(HEADS)
            units = [item[1] for item in self.model.now[0] if item[0] == "units"] + [name]
            head = f"{kind} {name}" + (f" on {source.choice(units)}" if kind in ("formulas", "record") else "")
            body = source.choice(BODIES[kind][:-1] if source.random() < 0.8 else BODIES[kind])
            text += head + "\n" + (body + "\n" if body else "")
        return text

    def back(self, word):
        stack = self.model.levels[-1][0 if word == "undo" else 1]
        if stack:
            self.model.back(word)
            getattr(self.desk, word)()
            self.compare()
        else:
            with self.case.assertRaises(ScaleError) as caught:
                getattr(self.desk, word)()
            self.case.assertEqual(caught.exception.__class__.__name__, "NothingTo" + word.capitalize())

    def within(self, word, depth):
        """An attempt or a trial with some steps in it, which may end with an error."""
        source, model = self.source, self.model
        before = model.now
        fails = source.random() < 0.25

        def action(desk):
            model.levels.append(([], []))
            for _ in range(source.randint(0, 5)):
                self.step(depth + 1)
            if fails:
                raise Stop()
            return "told"

        try:
            self.case.assertEqual(getattr(self.desk, word)(action), "told")
            error = None
        except (Stop, ScaleError) as caught:
            error = caught
        model.levels.pop()
        reached = model.now
        model.now = before
        if word == "trial":
            self.case.assertIs(error.__class__, Stop if fails else None.__class__)
        elif fails:
            self.case.assertIs(error.__class__, Stop)
        else:
            try:
                model.edit_to(*reached)
                self.case.assertIsNone(error)
            except ScaleError as due:
                self.case.assertIs(error.__class__, due.__class__)
                self.case.assertEqual(shown(error.__dict__), shown(due.__dict__))
        key = (word, error.__class__.__name__)
        self.seen[key] = self.seen.get(key, 0) + 1
        self.compare()


class AtRandom(unittest.TestCase):
    def test_walks(self):
        seen = {}
        for seed in range(120):
            walk = Walk(self, random.Random(seed))
            walk.both("put", FIRST)
            for _ in range(60):
                walk.step(0)
            for key, many in walk.seen.items():
                seen[key] = seen.get(key, 0) + many
        for key in (("put", "NoneType"), ("put", "BadText"), ("put", "NoName"), ("put", "NotKept"), ("edit", "NoneType"),
                    ("edit", "BadText"), ("edit", "NotKept"), ("drop", "NoneType"), ("rename", "NoneType"),
                    ("keep", "NoneType"), ("keep", "NotKept"), ("keep", "BadText"), ("keep", "NoName"),
                    ("keep", "BadNumber"), ("release", "NoneType"), ("attempt", "NoneType"), ("attempt", "NotKept"),
                    ("attempt", "Stop"), ("attempt", "NoName"), ("trial", "NoneType"), ("trial", "Stop")):
            self.assertGreater(seen.get(key, 0), 0, (key, seen))


if __name__ == "__main__":
    unittest.main()
