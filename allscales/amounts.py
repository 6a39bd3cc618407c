"""Amounts: numbers with units, their texts, readings on scales, and conversions that do not close."""

from allscales.errors import BadNumber, BadText, ByZero, NoUnit, Unlike
from allscales.exact import (are_integers, as_ratio, is_ratio, is_whole, ratio_minus, ratio_over, ratio_power,
                             ratio_product, ratio_sum)
from allscales.ratios import ratio_text
from allscales.words import checked_powers, exponents_in, ratio_word, size_in


class Amount:
    """A number with a unit, told in base units."""

    def __init__(self, exponents, number):
        if not isinstance(exponents, tuple) or len(exponents) == 0 or not are_integers(exponents):
            raise BadNumber("exponents", exponents)
        if not is_ratio(number):
            raise BadNumber("number", number)
        self.exponents = exponents
        self.number = as_ratio(number)

    def __add__(self, other):
        check_like(self, other)
        return Amount(self.exponents, ratio_sum(self.number, other.number))

    def __sub__(self, other):
        check_like(self, other)
        return Amount(self.exponents, ratio_minus(self.number, other.number))

    def __mul__(self, other):
        exponents = [a + b for a, b in zip(self.exponents, other.exponents)]
        return Amount(tuple(exponents), ratio_product(self.number, other.number))

    def __neg__(self):
        return Amount(self.exponents, (-self.number[0], self.number[1]))

    def __eq__(self, other):
        return isinstance(other, Amount) and self.exponents == other.exponents and self.number == other.number

    def less(self, other):
        """Whether this amount is below another one."""
        check_like(self, other)
        return self.number[0] * other.number[1] < other.number[0] * self.number[1]

    def over(self, other):
        """This amount divided by another one."""
        if other.number[0] == 0:
            raise ByZero(0)
        exponents = [a - b for a, b in zip(self.exponents, other.exponents)]
        return Amount(tuple(exponents), ratio_over(self.number, other.number))

    def power(self, n):
        """The power n of the amount."""
        if not is_whole(n):
            raise BadNumber("power", n)
        if n < 0 and self.number[0] == 0:
            raise ByZero(0)
        return Amount(tuple([n * item for item in self.exponents]), ratio_power(self.number, n))


class Loop:
    """Steps along maps, pairs (index, way), that lead a reading r to factor * r + shift on the name it was on."""

    def __init__(self, steps, factor, shift):
        self.steps = tuple(steps)
        self.factor = factor
        self.shift = shift


def check_like(one, other):
    """Raises the error that is due unless two amounts have the same exponents."""
    if one.exponents != other.exponents:
        raise Unlike(0, one.exponents, other.exponents)


def read_amount(units, text):
    """The amount of a text: a ratio, perhaps with UNITWORDS behind it."""
    if not isinstance(text, str):
        raise BadText(0, 0)
    words = text.split(" ")
    ratio = ratio_word(words[0])
    if ratio is None:
        raise BadText(1, 1)
    powers = {}
    if len(words) > 1:
        powers = checked_powers(words[1:], units.measures, 1)
    exponents = exponents_in(powers, units.measures, len(units.base))
    return Amount(exponents, ratio_product(ratio, size_in(powers, units.measures)))


def amount_text(units, amount, words):
    """The text of an amount in the unit that UNITWORDS tell."""
    exponents = units.exponents_of(words)
    if amount.exponents != exponents:
        raise Unlike(0, amount.exponents, exponents)
    text = ratio_text(ratio_over(amount.number, units.size_of(words)))
    return text if words == "1" else f"{text} {words}"


def converted(units, number, name, other):
    """The reading on other that tells the same amount as the reading number on name."""
    if not is_ratio(number):
        raise BadNumber("number", number)
    exponents, factor, shift = reading_map(units, name)
    wanted, divisor, start = reading_map(units, other)
    if exponents != wanted:
        raise Unlike(0, exponents, wanted)
    amount = moved(as_ratio(number), factor, shift)
    return ratio_over(ratio_minus(amount, start), divisor)


def moved(number, factor, shift):
    """The reading factor * number + shift."""
    return ratio_sum(ratio_product(factor, number), shift)


def reading_map(units, name):
    """(exponents, factor, shift): a reading r on the name is factor * r + shift in base units."""
    if not isinstance(name, str) or (name not in units.measures and name not in units.scales):
        raise NoUnit(name)
    factor = (1, 1)
    shift = (0, 1)
    while name in units.scales:
        name, a, b = units.scales[name]
        factor, shift = ratio_product(a, factor), moved(shift, a, b)
    exponents, size = units.measures[name]
    return (exponents, ratio_product(size, factor), ratio_product(size, shift))


def ring_of(maps):
    """None if all maps (name, other, a, b) close, otherwise a Loop that does not."""
    for index, told in enumerate(maps):
        if not is_map(told):
            raise BadNumber("map", index)
    paths, readings = paths_along(maps)
    for index, (name, other, a, b) in enumerate(maps):
        factor, shift = readings[name]
        if (ratio_product(as_ratio(a), factor), moved(shift, as_ratio(a), as_ratio(b))) != readings[other]:
            steps = path_to(paths, name) + [(index, 1)] + way_back(path_to(paths, other))
            return loop_of(maps, without_detour(steps))
    return None


def is_map(told):
    """Whether a value is a map between readings on two names."""
    if not isinstance(told, tuple) or len(told) != 4:
        return False
    name, other, a, b = told
    return (isinstance(name, str) and isinstance(other, str) and is_ratio(a) and is_ratio(b)
            and as_ratio(a)[0] != 0)


def paths_along(maps):
    """(paths, readings), dicts with all names that maps join, each lot of them led from one name.

    paths tells the last step to a name and the name where it begins, None for the first name of a
    lot; readings tells (factor, shift): a reading r on that first name is factor * r + shift here.
    """
    joined = {}
    for index, (name, other, a, b) in enumerate(maps):
        joined.setdefault(name, []).append((index, 1, other))
        joined.setdefault(other, []).append((index, -1, name))
    paths = {}
    readings = {}
    for start in joined:
        waiting = []
        if start not in paths:
            paths[start] = None
            readings[start] = ((1, 1), (0, 1))
            waiting = [start]
        while waiting:
            later = []
            for name in waiting:
                for index, way, other in joined[name]:
                    if other not in paths:
                        paths[other] = (index, way, name)
                        readings[other] = stepped(maps, readings[name], index, way)
                        later.append(other)
            waiting = later
    return (paths, readings)


def stepped(maps, reading, index, way):
    """What a reading, told as (factor, shift), is behind one step."""
    name, other, a, b = maps[index]
    factor, shift = reading
    if way == 1:
        return (ratio_product(as_ratio(a), factor), moved(shift, as_ratio(a), as_ratio(b)))
    return (ratio_over(factor, as_ratio(a)), ratio_over(ratio_minus(shift, as_ratio(b)), as_ratio(a)))


def path_to(paths, name):
    """The steps that lead to a name from the first name of its lot."""
    steps = []
    while paths[name] is not None:
        index, way, name = paths[name]
        steps.append((index, way))
    return steps[::-1]


def way_back(steps):
    """The steps that undo these."""
    return [(index, -way) for index, way in reversed(steps)]


def without_detour(steps):
    """The steps of a ring without those at its end that undo those at its beginning."""
    many = 0
    while 2 * many + 1 < len(steps) and steps[many] == (steps[-1 - many][0], -steps[-1 - many][1]):
        many += 1
    return steps[many:len(steps) - many]


def loop_of(maps, steps):
    """The Loop of these steps."""
    reading = ((1, 1), (0, 1))
    for index, way in steps:
        reading = stepped(maps, reading, index, way)
    return Loop(steps, reading[0], reading[1])
