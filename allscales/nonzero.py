"""Points at which polynomials are not 0. Polynomials are told here by dicts from exponents to integers."""


def table_of(poly):
    """The dict from exponents to numbers of a polynomial whose numbers are integers."""
    return {exponents: ratio[0] for exponents, ratio in poly.terms}


def without_zeros(table):
    """The same polynomial without terms that are 0."""
    return {exponents: table[exponents] for exponents in table if table[exponents] != 0}


def product_table(one, other):
    """The product of two polynomials."""
    product = {}
    for exponents, number in one.items():
        for more, factor in other.items():
            both = tuple([a + b for a, b in zip(exponents, more)])
            product[both] = product.get(both, 0) + number * factor
    return without_zeros(product)


def sum_table(one, factor, other):
    """One polynomial and a multiple of another one."""
    total = {exponents: one[exponents] for exponents in one}
    for exponents, number in other.items():
        total[exponents] = total.get(exponents, 0) + factor * number
    return without_zeros(total)


def put_first(table, value):
    """The polynomial in the other letters that comes if the first one is this integer."""
    most = max([exponents[0] for exponents in table] + [0])
    powers = [1]
    for _ in range(most):
        powers.append(powers[-1] * value)
    found = {}
    for exponents, number in table.items():
        rest = exponents[1:]
        found[rest] = found.get(rest, 0) + number * powers[exponents[0]]
    return without_zeros(found)


def point_off(size, tables):
    """A point of integers above 0 at which no polynomial is 0; none of them is 0 everywhere."""
    point = []
    for _ in range(size):
        # A polynomial that is not 0 becomes 0 for at most as many values of a letter as its degree tells.
        value = 1
        put = [put_first(table, value) for table in tables]
        while any([table == {} for table in put]):
            value += 1
            put = [put_first(table, value) for table in tables]
        tables = put
        point.append((value, 1))
    return tuple(point)
