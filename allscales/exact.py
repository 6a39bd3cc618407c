"""Integers and exact fractions: the checks and sums that the other files share.

A ratio that a caller passed may be in any terms; as_ratio brings it to the pair in lowest terms
that the sums here take and return.
"""

from math import gcd, lcm


def is_whole(value):
    """Whether a value is an integer; True and False are none."""
    return isinstance(value, int) and not isinstance(value, bool)


def is_list(value):
    """Whether a value may stand where a list is described."""
    return isinstance(value, (list, tuple))


def are_integers(items):
    """Whether all items of a list are integers."""
    return all([is_whole(item) for item in items])


def is_index(value, many):
    """Whether a value is an integer from 0 below many."""
    return is_whole(value) and 0 <= value < many


def is_ratio(value):
    """Whether a value may stand where a ratio is described."""
    if isinstance(value, tuple):
        return len(value) == 2 and are_integers(value) and value[1] > 0
    return is_whole(value)


def lowest(top, bottom):
    """The ratio top / bottom in lowest terms; bottom is not 0."""
    shared = gcd(top, bottom)
    if bottom < 0:
        shared = -shared
    return (top // shared, bottom // shared)


def as_ratio(value):
    """The pair in lowest terms of a value that is a ratio."""
    if isinstance(value, tuple):
        return lowest(value[0], value[1])
    return (value, 1)


def ratio_sum(one, other):
    """The sum of two ratios."""
    if one[1] == 1 and other[1] == 1:
        return (one[0] + other[0], 1)
    # Only a factor that both bottoms have can be cancelled, so the divisors here stay small.
    shared = gcd(one[1], other[1])
    part = other[1] // shared
    total = one[0] * part + other[0] * (one[1] // shared)
    left = gcd(total, shared)
    return (total // left, one[1] // left * part)


def ratio_minus(one, other):
    """The first ratio less the second one."""
    return ratio_sum(one, (-other[0], other[1]))


def ratio_product(one, other):
    """The product of two ratios."""
    if one[1] == 1 and other[1] == 1:
        return (one[0] * other[0], 1)
    # Each ratio is in lowest terms, so only the top of one and the bottom of the other can share a factor.
    first = gcd(one[0], other[1])
    second = gcd(other[0], one[1])
    return (one[0] // first * (other[0] // second), one[1] // second * (other[1] // first))


def ratio_over(one, other):
    """One ratio divided by another one that is not 0."""
    return lowest(one[0] * other[1], one[1] * other[0])


def whole_power(base, n):
    """The power n of an integer, n from 0 on."""
    result = 1
    while n:
        if n & 1:
            result = result * base
        n = n >> 1
        if n:
            base = base * base
    return result


def ratio_power(ratio, n):
    """The power n of a ratio, which is not 0 for n below 0."""
    top, bottom = ratio
    if n < 0:
        return lowest(whole_power(bottom, -n), whole_power(top, -n))
    return (whole_power(top, n), whole_power(bottom, n))


def common_bottom(ratios):
    """The least integer above 0 that makes all of these ratios, in lowest terms, integers."""
    shared = 1
    for ratio in ratios:
        shared = lcm(shared, ratio[1])
    return shared


def as_tuples(value):
    """The value with each list, also within lists and tuples, made a tuple."""
    if is_list(value):
        return tuple([as_tuples(item) for item in value])
    return value
