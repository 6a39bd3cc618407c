"""What several test files use: values of wrong kinds, and checks of calls, of errors and of ratios."""

import copy
from fractions import Fraction

NO_INTEGERS = (True, False, None, "1", b"1", 1.0, [1], (1,), (1, 2), {}, Fraction(2))
NO_RATIOS = (True, False, None, "1", "1/2", 0.5, [1, 2], (1,), (1, 0), (1, -2), (1, 2, 3), (), (True, 2), (1, True),
             (1.0, 2), ("1", 2), ((1, 2), 3), {}, Fraction(1, 2))
NO_TEXTS = (None, 1, True, b"1", ["1"], ("1",), {}, 0.5)


def raised(case, error, fields, function, *given):
    """Fails unless the call raises exactly this error with these fields and leaves what it is given as it is."""
    before = copy.deepcopy(given)
    try:
        found = function(*given)
    except ValueError as caught:
        case.assertIs(caught.__class__, error, (given, caught.__dict__))
        case.assertEqual(shown(tuple(caught.__dict__.values())), shown(fields), given)
    else:
        case.fail(f"{error.__name__} is due for {given!r:.300}, not {found!r:.300}")
    case.assertEqual(shown(given), shown(before))


def called(case, function, *given):
    """The result of a call, which leaves what it is given as it is, and gives the same a second time."""
    before = copy.deepcopy(given)
    result = function(*given)
    case.assertEqual(shown(given), shown(before))
    case.assertEqual(shown(result), shown(function(*given)))
    return result


def shown(value):
    """The value told by its classes and contents, so that True is not 1, and a list no tuple."""
    if isinstance(value, (list, tuple)):
        return (value.__class__.__name__, tuple([shown(item) for item in value]))
    if isinstance(value, dict):
        return ("dict", tuple([(shown(key), shown(item)) for key, item in value.items()]))
    if value.__class__.__module__.startswith("allscales."):
        return (value.__class__.__name__, shown(value.__dict__))
    return (value.__class__.__name__, value)


def pair(number):
    """A number as the package returns a ratio."""
    number = Fraction(number)
    return (number.numerator, number.denominator)


def fraction(ratio):
    """A ratio, as it may be passed, as a Fraction."""
    return Fraction(*ratio) if isinstance(ratio, tuple) else Fraction(ratio)


def in_other_terms(random, ratio):
    """The ratio as an integer, where it is one, or as a pair in any terms."""
    number = fraction(ratio)
    if number.denominator == 1 and random.random() < 0.4:
        return number.numerator
    many = random.choice((1, 1, 2, 3, 60))
    return (number.numerator * many, number.denominator * many)


def is_lowest(ratio):
    """Whether a value is a ratio as the package returns it."""
    return (isinstance(ratio, tuple) and len(ratio) == 2 and all(item.__class__ is int for item in ratio)
            and ratio[1] > 0 and pair(fraction(ratio)) == ratio)


def marked(text):
    """(the text without its mark ~, the place (line, column) of the sign behind the mark)."""
    ahead = text[:text.index("~")]
    return (text.replace("~", ""), (ahead.count("\n") + 1, len(ahead) - ahead.rfind("\n")))
