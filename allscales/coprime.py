"""Integers told as products of powers of integers without common divisors: no primes are needed."""

from math import gcd


def coprime_parts(numbers):
    """Ascending integers above 1, each two without a common divisor above 1, such that each of the
    numbers, integers above 0, is a product of powers of them."""
    parts = []
    for number in numbers:
        parts = parted(parts, number)
    return sorted(parts)


def parted(parts, number):
    """Such integers for the products of powers of parts, which are such, and for one number more."""
    kept = list(parts)
    waiting = [number]
    while waiting:
        new = waiting.pop()
        met = first_met(kept, new)
        if met is None:
            if new > 1:
                kept.append(new)
        elif kept[met] != new:
            part = kept.pop(met)
            shared = gcd(part, new)
            waiting.extend([part // shared, new // shared, shared])
    return kept


def first_met(parts, number):
    """The index of the first part that has a common divisor above 1 with the number, None without one."""
    for at, part in enumerate(parts):
        if gcd(part, number) > 1:
            return at
    return None


def times_in(number, part):
    """How often an integer above 0 can be divided by a part above 1."""
    many = 0
    while number % part == 0:
        number = number // part
        many += 1
    return many
