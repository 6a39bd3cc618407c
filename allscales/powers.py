"""Roots as exact values: triples (sign, k, ratio) with the least possible k."""

from math import lcm

from allscales.coprime import coprime_parts, times_in, wholes_of
from allscales.errors import BadNumber
from allscales.exact import as_ratio, is_whole, is_ratio, ratio_power, ratio_product, ratio_sum
from allscales.ratios import MOST_ROOT, ratio_root


def power_value(sign, k, ratio):
    """The power value of the number with this sign whose size has the power k ratio."""
    if not is_whole(sign) or sign not in (1, 0, -1):
        raise BadNumber("sign", sign)
    if not is_whole(k) or k < 1 or k > MOST_ROOT:
        raise BadNumber("root", k)
    if not is_ratio(ratio) or not fits_sign(sign, as_ratio(ratio)):
        raise BadNumber("ratio", ratio)
    if sign == 0:
        return (0, 1, (0, 1))
    least, power = least_root(k, as_ratio(ratio))
    return (sign, least, power)


def fits_sign(sign, ratio):
    """Whether a ratio is a power of the size of a number of this sign."""
    if sign == 0:
        return ratio[0] == 0
    return ratio[0] > 0


def least_root(k, ratio):
    """The least k, and the power k of the number, for the root k of a ratio above 0."""
    # The powers of the number that are ratios are the multiples of the least one, so it divides k.
    for least in range(1, k):
        if k % least == 0:
            power = ratio_root(ratio, k // least)
            if power is not None:
                return (least, power)
    return (k, ratio)


def power_product(pairs):
    """The power value of the product of ratios to the powers of their exponents."""
    return product_value([checked_pair(pair) for pair in pairs])


def product_value(given):
    """As power_product, for pairs of ratios in lowest terms, with exponents of any bottom."""
    wholes = wholes_of([ratio for ratio, exponent in given])
    # Powers of parts without common divisors can not make up for each other, so each part tells
    # its own least root, and no large product has to be searched for roots.
    roots = [part_root(part, given) for part in coprime_parts(wholes)]
    k = 1
    for root in roots:
        k = lcm(k, root[0])
    top = 1
    bottom = 1
    for least, power, many in roots:
        factor = ratio_power(power, many * (k // least))
        top = top * factor[0]
        bottom = bottom * factor[1]
    return (1, k, (top, bottom))


def checked_pair(pair):
    """The pair (ratio, exponent) in lowest terms."""
    if not isinstance(pair, tuple) or len(pair) != 2 or not is_ratio(pair[0]) or not is_ratio(pair[1]):
        raise BadNumber("pair", pair)
    ratio = as_ratio(pair[0])
    exponent = as_ratio(pair[1])
    if ratio[0] <= 0 or exponent[1] > MOST_ROOT:
        raise BadNumber("pair", pair)
    return (ratio, exponent)


def part_root(part, pairs):
    """What one coprime part gives to the product: (k, power, many) for the root k of power to the power many."""
    total = (0, 1)
    for ratio, exponent in pairs:
        many = times_in(ratio[0], part) - times_in(ratio[1], part)
        total = ratio_sum(total, ratio_product((many, 1), exponent))
    least, power = least_root(total[1], (part, 1))
    return (least, power, total[0])
