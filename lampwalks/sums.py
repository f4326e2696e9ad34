"""Numbers of choices."""

from math import comb

from lampwalks.errors import BadCount

MOST_THINGS = 400


def choose(a, b):
    """The number of ways to choose b things out of a."""
    if not 0 <= a <= MOST_THINGS:
        raise BadCount(a)
    if not 0 <= b <= a:
        return 0
    return comb(a, b)
