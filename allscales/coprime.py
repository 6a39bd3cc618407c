"""Integers told as products of powers of integers without common divisors: no primes are needed."""

from math import gcd


def coprime_parts(numbers):
    """Ascending integers above 1, each two without a common divisor above 1, such that each of the
    numbers, integers above 0, is a product of powers of them."""
    parts = []
    for number in numbers:
        parts = parted(parts, number)
    return sorted(parts)


def parted(parts, number):
    """Such integers for the products of powers of parts, which are such, and for one number more."""
    kept = []
    for part in parts:
        # What the number shares with one part, it shares with no other, so each part is met once.
        rest = without_factors(number, part)
        if rest == number:
            kept.append(part)
        else:
            kept.extend(pair_parts(part, number // rest))
        number = rest
    if number > 1:
        kept.append(number)
    return kept


def without_factors(number, part):
    """The greatest divisor of a number that has no common divisor above 1 with the part."""
    shared = gcd(number, part)
    while shared > 1:
        number = number // shared
        shared = gcd(number, shared)
    return number


def pair_parts(one, other):
    """Such integers for two integers above 1."""
    kept = [one]
    waiting = [other]
    while waiting:
        new = waiting.pop()
        met = first_met(kept, new)
        if met is None:
            if new > 1:
                kept.append(new)
        elif kept[met] != new:
            part = kept.pop(met)
            shared = gcd(part, new)
            waiting.extend([part // shared, new // shared, shared])
    return kept


def first_met(parts, number):
    """The index of the first part that has a common divisor above 1 with the number, None without one."""
    for at, part in enumerate(parts):
        if gcd(part, number) > 1:
            return at
    return None


def times_in(number, part):
    """How often an integer above 0 can be divided by a part above 1."""
    many = 0
    while number % part == 0:
        number = number // part
        many += 1
    return many


def wholes_of(ratios):
    """The tops and bottoms of some ratios, pairs in lowest terms."""
    return [whole for ratio in ratios for whole in ratio]


def powers_in(ratio, parts):
    """The row of the powers of the parts, as coprime_parts tells them, whose product is the ratio."""
    return [times_in(ratio[0], part) - times_in(ratio[1], part) for part in parts]
