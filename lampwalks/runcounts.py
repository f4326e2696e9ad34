"""How many least runs there are, by counting at each place the orders of its turns and branches."""

from math import factorial

from lampwalks.leastruns import check_ends, passage
from lampwalks.polynomials import moved, poly_times, total
from lampwalks.prices import lies_between
from lampwalks.shares import share
from lampwalks.states import check_state
from lampwalks.sums import choose
from lampwalks.webcounts import ways_to


def lamp_ways(land, b):
    """For each lamp what ways_to tells of its position in b."""
    return [ways_to(lamp, q) for lamp, q in zip(land.lamps, b[1])]


def _orders(parts, ways):
    """The pairs (steps, how many orders of all that is to be done at a place with these branches and ways)."""
    c = len(parts)
    return tuple([(steps, factorial(c) * many * choose(steps + c, c)) for steps, many in ways])


def counted(land, ways, a, b):
    """The number of least runs from a to b, where ways has what lamp_ways tells of b."""
    passed, branches = passage(land, a, b)
    many = 1
    for x, parts in branches.items():
        many = many * total(_orders(parts, ways[x][a[1][x]]))
    return many


def runs_many(land, a, b):
    """The number of least runs."""
    check_ends(land, a, b)
    return counted(land, lamp_ways(land, b), a, b)


def steps_many(land, a, b):
    """The pairs (how many deeds, how many least runs have so many)."""
    check_ends(land, a, b)
    passed, branches = passage(land, a, b)
    ways = lamp_ways(land, b)
    counts = ((0, 1),)
    goings = len(passed) - 1
    for x, parts in branches.items():
        counts = poly_times(counts, _orders(parts, ways[x][a[1][x]]))
        goings += 2 * len(parts)
    return moved(counts, goings)


def pass_share(land, a, x, b):
    """The share of the least runs from a to b that come to x."""
    check_ends(land, a, x)
    check_state(land, b)
    if not lies_between(land, a, x, b):
        return (0, 1)
    ways = lamp_ways(land, b)
    through = runs_many(land, a, x) * counted(land, ways, x, b)
    return share(through, counted(land, ways, a, b))
