"""How many states are near, and which price is the greatest."""

from lampwalks.spheres import sphere


def ball(land, a, r):
    """The number of states with a price from a of at most r."""
    return sum([many for spent, many in sphere(land, a) if spent <= r])


def farthest(land, a):
    """The pair (greatest price from a, how many states have it)."""
    return sphere(land, a)[-1]
