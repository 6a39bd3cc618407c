"""Matrices for the tests, and what is true of them by the plain way."""

import itertools
from fractions import Fraction
from math import gcd


def times(one, other):
    """The product of two matrices."""
    return tuple([tuple([sum([a * b for a, b in zip(row, column)]) for column in zip(*other)]) for row in one])


def determinant(rows):
    """The determinant of a square matrix, by fractions."""
    rows = [[Fraction(item) for item in row] for row in rows]
    product = Fraction(1)
    for at in range(len(rows)):
        found = [place for place in range(at, len(rows)) if rows[place][at] != 0]
        if not found:
            return 0
        if found[0] != at:
            rows[at], rows[found[0]] = rows[found[0]], rows[at]
            product = -product
        product *= rows[at][at]
        for place in range(at + 1, len(rows)):
            many = rows[place][at] / rows[at][at]
            rows[place] = [a - many * b for a, b in zip(rows[place], rows[at])]
    return product


def determinant_modulo(rows, prime):
    """The determinant of a square matrix of integers modulo a prime."""
    rows = [[item % prime for item in row] for row in rows]
    product = 1
    for at in range(len(rows)):
        found = [place for place in range(at, len(rows)) if rows[place][at] != 0]
        if not found:
            return 0
        if found[0] != at:
            rows[at], rows[found[0]] = rows[found[0]], rows[at]
            product = -product
        product = product * rows[at][at] % prime
        inverse = pow(rows[at][at], -1, prime)
        for place in range(at + 1, len(rows)):
            many = rows[place][at] * inverse % prime
            rows[place] = [(a - many * b) % prime for a, b in zip(rows[place], rows[at])]
    return product % prime


def rank_of(rows):
    """The rank of a matrix, by fractions."""
    rows = [[Fraction(item) for item in row] for row in rows]
    rank = 0
    for at in range(len(rows[0])):
        found = [place for place in range(rank, len(rows)) if rows[place][at] != 0]
        if found:
            rows[rank], rows[found[0]] = rows[found[0]], rows[rank]
            for place in range(rank + 1, len(rows)):
                many = rows[place][at] / rows[rank][at]
                rows[place] = [a - many * b for a, b in zip(rows[place], rows[rank])]
            rank += 1
    return rank


def parts_divisor(rows, many):
    """The greatest common divisor of the determinants of all square parts with so many rows."""
    shared = 0
    for places in itertools.combinations(range(len(rows)), many):
        for columns in itertools.combinations(range(len(rows[0])), many):
            shared = gcd(shared, int(determinant([[rows[place][at] for at in columns] for place in places])))
    return shared


def unimodular(random, size, steps=12):
    """A random unimodular matrix."""
    rows = [[1 if at == place else 0 for at in range(size)] for place in range(size)]
    for _ in range(steps):
        if size > 1:
            one, other = random.sample(range(size), 2)
            many = random.randint(-3, 3)
            rows[one] = [a + many * b for a, b in zip(rows[one], rows[other])]
            if random.random() < 0.3:
                rows[one], rows[other] = rows[other], [-item for item in rows[one]]
    return rows


def some_matrix(random, most=5, digits=30):
    """A random matrix: with rows that hang together, and rows and columns of zeros, now and then."""
    many = random.randint(1, most)
    width = random.randint(1, most)
    limit = 10 ** random.choice((0, 1, 1, 1, 3, digits))
    rows = [[random.randint(-limit, limit) for _ in range(width)] for _ in range(many)]
    kind = random.random()
    if kind < 0.3 and many > 1:
        place, other = random.randrange(many), random.randrange(many)
        rows[place] = [random.randint(-3, 3) * item for item in rows[other]]
        rows[0] = [2 * a - 3 * b for a, b in zip(rows[-1], rows[other])]
    elif kind < 0.4:
        rows[random.randrange(many)] = [0] * width
    elif kind < 0.5:
        at = random.randrange(width)
        for row in rows:
            row[at] = 0
    return rows
