"""Shares: fractions (n, d) in lowest terms with d >= 1."""

from math import gcd

from lampwalks.errors import BadCount


def share(n, d):
    """The share n / d."""
    if d == 0:
        raise BadCount(d)
    common = gcd(n, d)
    if d < 0:
        common = -common
    return (n // common, d // common)


def plus(one, two):
    """The sum of two shares."""
    return share(one[0] * two[1] + two[0] * one[1], one[1] * two[1])


def times(one, two):
    """The product of two shares."""
    return share(one[0] * two[0], one[1] * two[1])


def mean(shares):
    """The mean of several shares."""
    if len(shares) == 0:
        raise BadCount(0)
    whole = (0, 1)
    for one in shares:
        whole = plus(whole, one)
    return times(whole, (1, len(shares)))
