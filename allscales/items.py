"""The items of a desk: their head lines, their lines, and what these tell."""

from allscales.bodies import read_equations, read_record
from allscales.errors import BadText, NoName
from allscales.formulas import Formulas
from allscales.units import Units
from allscales.words import is_name, lines_of

HEADS = ("units", "formulas", "record", "sizes")
ON_UNITS = ("formulas", "record")


class Item:
    """An item: its kind, a word of HEADS, its name, the name of the units it is on (None without), and its lines.

    content is what they tell, None as long as they have not been read: Units, Formulas, Measured or
    Equations. verdicts has what has been found out of promises about it, by their texts.
    """

    def __init__(self, kind, name, on, body, content):
        self.kind = kind
        self.name = name
        self.on = on
        self.body = body
        self.content = content
        self.verdicts = {}

    def head(self):
        """The head line."""
        return f"{self.kind} {self.name}" if self.on is None else f"{self.kind} {self.name} on {self.on}"

    def body_text(self):
        """The lines but the head line, each with a line feed."""
        return "".join([line + "\n" for line in self.body])


def told_items(text):
    """(items, numbers): the items of a file, not read yet, and the dict from their names to their head lines."""
    heads = []
    bodies = []
    numbers = {}
    for number, line in enumerate(lines_of(text), 1):
        words = line.split(" ")
        if words[0] in HEADS:
            column = wrong_head_column(words, numbers)
            if column > 0:
                raise BadText(number, column)
            numbers[words[1]] = number
            heads.append(words)
            bodies.append([])
        elif heads == []:
            raise BadText(number, 1)
        else:
            bodies[-1].append(line)
    items = [Item(words[0], words[1], words[3] if words[0] in ON_UNITS else None, body, None)
             for words, body in zip(heads, bodies)]
    return (items, numbers)


def wrong_head_column(words, taken):
    """The column of the first wrong word of a head line, 0 if it is right; taken has the names that are there."""
    if len(words) < 2 or not is_name(words[1]) or words[1] in taken:
        return 2
    if words[0] not in ON_UNITS:
        return 3 if len(words) > 2 else 0
    if len(words) < 3 or words[2] != "on":
        return 3
    if len(words) < 4 or not is_name(words[3]):
        return 4
    return 5 if len(words) > 4 else 0


def read_items(items, numbers):
    """The items with what they tell; numbers has the names of those that are read, with the lines of their heads.

    The units are read first, as others are on them.
    """
    units = {item.name: content_of(item, numbers, {}) for item in items if item.kind == "units"}
    found = []
    for item in items:
        if item.name not in numbers:
            found.append(item)
        else:
            content = units[item.name] if item.kind == "units" else content_of(item, numbers, units)
            found.append(Item(item.kind, item.name, item.on, item.body, content))
    return found


def content_of(item, numbers, units):
    """What an item tells, read if it is one of numbers, with the lines of errors counted from its head line."""
    if item.name not in numbers:
        return item.content
    try:
        return read_content(item, units)
    except BadText as error:
        raise BadText(numbers[item.name] + error.line, error.column)


def read_content(item, units):
    """What the lines of an item tell; units has all units by their names."""
    if item.kind == "units":
        return Units(item.body_text())
    if item.kind == "sizes":
        return read_equations(item.body)
    if item.on not in units:
        raise NoName(item.on)
    if item.kind == "record":
        return read_record(item.body, units[item.on])
    for number, line in enumerate(item.body, 1):
        if line.split(" ")[0] in HEADS:
            raise BadText(number, 1)
    return Formulas(units[item.on], item.body_text())
