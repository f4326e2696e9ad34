"""How many states lie between two others."""

from lampwalks.errors import BadPlace
from lampwalks.leastruns import check_ends, passage
from lampwalks.webcounts import web_inner


def between_many(land, a, b):
    """The number of states between a and b, both counted."""
    check_ends(land, a, b)
    passed, counts = _zones(land, a, b)
    return sum([counts[x] for x in passed])


def zone(land, a, b, v):
    """The number of states between a and b whose walker stands at v, a place of the way, or in a branch there."""
    check_ends(land, a, b)
    passed, counts = _zones(land, a, b)
    if v not in passed:
        raise BadPlace(v)
    return counts[v]


def _zones(land, a, b):
    """The way, and a dict of the number of states whose walker stands at a place or in a branch there."""
    passed, branches = passage(land, a, b)
    found = {}
    # a branch is counted before the place at which it is
    for x in list(branches)[::-1]:
        inner = len(web_inner(land.lamps[x], a[1][x], b[1][x]))
        # each branch is done or not, but for the one in which the walker is
        choices = 1 << len(branches[x])
        inside = sum([found[y] for y, length in branches[x]])
        found[x] = inner * (choices + choices * inside // 2)
    return (passed, found)
