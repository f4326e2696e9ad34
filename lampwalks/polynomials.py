"""Polynomials: ascending tuples of pairs (price, how many), without pairs that have 0 of something."""

from lampwalks.errors import BadCount, TooMany

MOST_PRODUCTS = 1000000


def _polynomial(counts):
    """The polynomial of a dict that has how many there are of each price."""
    return tuple([(price, many) for price, many in sorted(counts.items()) if many != 0])


def poly_plus(one, two):
    """The sum of two polynomials."""
    counts = {}
    for price, many in one + two:
        counts[price] = counts.get(price, 0) + many
    return _polynomial(counts)


def poly_times(one, two):
    """The product of two polynomials."""
    products = len(one) * len(two)
    if products > MOST_PRODUCTS:
        raise TooMany(products)
    return product_of(one, two)


def product_of(one, two):
    """The product of two polynomials with any number of pairs."""
    counts = {}
    for price, many in one:
        for further, factor in two:
            counts[price + further] = counts.get(price + further, 0) + many * factor
    return _polynomial(counts)


def tallied(prices):
    """The polynomial that has each price as many times as it stands among the prices."""
    counts = {}
    for price in prices:
        counts[price] = counts.get(price, 0) + 1
    return _polynomial(counts)


def moved(poly, price):
    """The polynomial with all its prices greater by a price."""
    if price < 0:
        raise BadCount(price)
    return tuple([(before + price, many) for before, many in poly])


def total(poly):
    """The sum of the numbers of a polynomial."""
    return sum([many for price, many in poly])


def greatest(poly):
    """The greatest price of a polynomial."""
    if len(poly) == 0:
        raise BadCount(0)
    return poly[-1][0]
