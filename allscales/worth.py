"""Units by worth: for which units a quotient is covariant, and what shows that it is not."""

from allscales.echelon import dot, kernel_rows
from allscales.errors import BadMatrix
from allscales.exact import are_integers, as_tuples, is_list, ratio_over, ratio_power, ratio_product
from allscales.linear import span_of
from allscales.nonzero import point_off, product_table, sum_table, table_of
from allscales.quotients import Quotient, is_nothing, same


class Refuter:
    """A point and a change for which the value, first, is not second, as it would have to be."""

    def __init__(self, point, change, first, second):
        self.point = tuple(point)
        self.change = tuple(change)
        self.first = first
        self.second = second


class NoResult:
    """Two points whose values a change multiplies by unlike factors."""

    def __init__(self, one, other, change):
        self.one = tuple(one)
        self.other = tuple(other)
        self.change = tuple(change)


class Apart:
    """A point at which two quotients have unlike values, first and second."""

    def __init__(self, point, first, second):
        self.point = tuple(point)
        self.first = first
        self.second = second


def weights_of(f):
    """The basis of the weights of a quotient, None if it is 0."""
    if is_nothing(f):
        return None
    return as_tuples(kernel_rows(weight_equations(f)))


def weight_equations(f):
    """Independent rows whose products with a tuple of n + 1 integers are all 0 exactly if it is a weight."""
    sums = {}
    for above, number in f.top.terms:
        for below, factor in f.bottom.terms:
            row = [a - b for a, b in zip(above, below)] + [-1]
            both = tuple([a + b for a, b in zip(above, below)])
            many = number[0] * factor[0]
            sums[both] = [old + many * item for old, item in zip(sums.get(both, [0] * len(row)), row)]
    return span_of(list(sums.values()))


def covariant(f, exponents, result):
    """Whether a quotient is covariant for exponents of its letters and of its value."""
    check_exponents(f, exponents)
    check_result(result, len(exponents[0]))
    return is_nothing(f) or wrong_unit(weight_equations(f), exponents, result) is None


def result_of(f, exponents):
    """The exponents of the value for which a quotient is covariant, None if there are none, or if it is 0."""
    check_exponents(f, exponents)
    if is_nothing(f):
        return None
    result = due_result(f, exponents)
    if wrong_unit(weight_equations(f), exponents, result) is None:
        return result
    return None


def check_exponents(f, exponents):
    """Raises the error that is due unless exponents are those of the letters of a quotient."""
    if not is_letters(exponents) or len(exponents) != f.size:
        raise BadMatrix("exponents")


def is_letters(exponents):
    """Whether a value is a list of at least one tuple of the same number, from 1 on, of integers."""
    if not is_list(exponents) or len(exponents) == 0 or not all([isinstance(row, tuple) for row in exponents]):
        return False
    width = len(exponents[0])
    return width > 0 and all([len(row) == width and are_integers(row) for row in exponents])


def check_result(result, width):
    """Raises the error that is due unless result is a tuple of so many integers."""
    if not isinstance(result, tuple) or len(result) != width or not are_integers(result):
        raise BadMatrix("result")


def column_of(exponents, place):
    """The items of the letters for one base unit."""
    return [row[place] for row in exponents]


def is_weight(equations, weight):
    """Whether a list of n + 1 integers is a weight."""
    return not any([dot(row, weight) for row in equations])


def wrong_unit(equations, exponents, result):
    """The base unit in which a quotient is not covariant, one with a small result; None if there is none."""
    wrong = [(abs(item), place) for place, item in enumerate(result)
             if not is_weight(equations, column_of(exponents, place) + [item])]
    return min(wrong)[1] if wrong else None


def due_result(f, exponents):
    """The only exponents of the value for which a quotient that is not 0 may be covariant."""
    # The last terms of top and bottom are those of their product that come by one way alone.
    above = f.top.terms[-1][0]
    below = f.bottom.terms[-1][0]
    gaps = [a - b for a, b in zip(above, below)]
    return tuple([dot(gaps, column_of(exponents, place)) for place in range(len(exponents[0]))])


def unit_change(place, width):
    """The change that doubles one base unit."""
    return tuple([1 if at == place else 0 for at in range(width)])


def power_of_two(n):
    """The power n of 2, a ratio."""
    return ratio_power((2, 1), n)


def changed(point, column):
    """The point with each letter multiplied by the power of 2 that column tells for it."""
    return tuple([ratio_product(item, power_of_two(n)) for item, n in zip(point, column)])


def changed_table(table, column, least):
    """The polynomial at the changed point, divided by the power least of 2, the least that its terms get or less."""
    return {exponents: table[exponents] << (dot(column, exponents) - least) for exponents in table}


def least_degree(table, column):
    """The least of the powers of 2 that a change puts on the terms."""
    return min([dot(column, exponents) for exponents in table])


def refuter(f, exponents, result):
    """A Refuter for a quotient that is not covariant, None for one that is."""
    check_exponents(f, exponents)
    check_result(result, len(exponents[0]))
    place = None
    if not is_nothing(f):
        place = wrong_unit(weight_equations(f), exponents, result)
    if place is None:
        return None
    column = column_of(exponents, place)
    top, bottom, new_top, new_bottom, shift = both_tables(f, column)
    # The value changes by 2 ** result exactly where this is 0: new_top * bottom less new_bottom * top
    # times 2 ** many, all of it made whole.
    many = result[place] - shift
    one = product_table(new_top, bottom)
    other = product_table(new_bottom, top)
    gap = sum_table(scaled_table(one, max(-many, 0)), -(1 << max(many, 0)), other)
    point = point_off(f.size, [gap, bottom, new_bottom])
    second = ratio_product(power_of_two(result[place]), f.at(point))
    return Refuter(point, unit_change(place, len(result)), f.at(changed(point, column)), second)


def both_tables(f, column):
    """(top, bottom, new_top, new_bottom, shift): the polynomials of a quotient, and those at the changed point.

    At the changed point the value is new_top over new_bottom, times 2 to the power shift.
    """
    top = table_of(f.top)
    bottom = table_of(f.bottom)
    above = least_degree(top, column)
    below = least_degree(bottom, column)
    return (top, bottom, changed_table(top, column, above), changed_table(bottom, column, below), above - below)


def scaled_table(table, n):
    """The polynomial times the power n of 2, n from 0 on."""
    return {exponents: table[exponents] << n for exponents in table}


def no_result(f, exponents):
    """A NoResult for a quotient that is covariant for no exponents of a value, otherwise None."""
    check_exponents(f, exponents)
    place = None
    if not is_nothing(f):
        place = wrong_unit(weight_equations(f), exponents, due_result(f, exponents))
    if place is None:
        return None
    column = column_of(exponents, place)
    top, bottom, new_top, new_bottom, shift = both_tables(f, column)
    one = point_off(f.size, [top, bottom, new_top, new_bottom])
    # All points at which the change multiplies the value by the same factor are zeros of gap.
    factor = ratio_over(f.at(changed(one, column)), ratio_product(f.at(one), power_of_two(shift)))
    whole = {powers: factor[1] * number for powers, number in product_table(new_top, bottom).items()}
    gap = sum_table(whole, -factor[0], product_table(new_bottom, top))
    other = point_off(f.size, [gap, top, bottom, new_top, new_bottom])
    return NoResult(one, other, unit_change(place, len(exponents[0])))


def rewritten(f):
    """A quotient that is the same, in which all terms of top and of bottom are alike."""
    if is_nothing(f):
        return f
    weights = weights_of(f)
    degrees, bottom = f.bottom.parts([row[:-1] for row in weights])[0]
    wanted = tuple([degree + row[-1] for degree, row in zip(degrees, weights)])
    tops = {found: top for found, top in f.top.parts([row[:-1] for row in weights])}
    return Quotient(tops[wanted], bottom)


def apart(f, g):
    """An Apart for two quotients that are not the same, otherwise None."""
    if same(f, g):
        return None
    gap = sum_table(product_table(table_of(f.top), table_of(g.bottom)), -1,
                    product_table(table_of(g.top), table_of(f.bottom)))
    point = point_off(f.size, [gap, table_of(f.bottom), table_of(g.bottom)])
    return Apart(point, f.at(point), g.at(point))
