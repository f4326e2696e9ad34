"""A run of the least cost, and the deeds with which one can begin."""

from lampwalks.lands import check_tree
from lampwalks.roads import outward, path
from lampwalks.states import check_state
from lampwalks.webways import web_next


def check_ends(land, a, b):
    """Raises NotTree, then the errors of the state a, then of b."""
    check_tree(land)
    check_state(land, a)
    check_state(land, b)


def passage(land, a, b):
    """The way from a to b, and a dict of the branches at each place, as a walker from a sees them.

    A branch is a pair (first place, length of the road to it). Each place stands behind the one it is entered from.
    """
    hanging = outward(land.roads, a[0])
    passed = path(hanging, b[0])
    # whether a lamp is to be changed at a place or at what hangs on it: told from the outermost places inwards
    wanted = {}
    for x in list(hanging)[::-1]:
        wanted[x] = a[1][x] != b[1][x] or any([wanted[y] for y, length in hanging[x]])
    branches = {x: tuple([(y, length) for y, length in row if wanted[y] and y not in passed])
                for x, row in hanging.items()}
    return (passed, branches)


def turns(land, a, b, x):
    """The turns that bring the lamp of x from its position in a to that in b, each one to the least of web_next."""
    lamp = land.lamps[x]
    found = []
    at = a[1][x]
    while at != b[1][x]:
        at = web_next(lamp, at, b[1][x])[0]
        found.append(("turn", at))
    return tuple(found)


def joined(parts):
    """All tuples one behind the other."""
    whole = ()
    for part in parts:
        whole = whole + part
    return whole


def entered(passed, deeds):
    """The run along the way that does at each of its places the deeds that are told for it."""
    stops = [(("go", x),) + deeds[x] for x in passed]
    # the walker stands at the first place already
    return joined(stops)[1:]


def least_run(land, a, b):
    """The least run that sets each lamp when the walker first comes to it, and takes branches by ascending place."""
    check_ends(land, a, b)
    passed, branches = passage(land, a, b)
    deeds = {}
    # a branch is told before the place at which it is
    for x in list(branches)[::-1]:
        trips = [(("go", y),) + deeds[y] + (("go", x),) for y, length in branches[x]]
        deeds[x] = turns(land, a, b, x) + joined(trips)
    return entered(passed, deeds)


def lessening(land, a, b):
    """The deeds possible at a whose cost is what they take off the price to b."""
    check_ends(land, a, b)
    return first_deeds(land, a, b)


def first_deeds(land, a, b):
    """The deeds with which a least run from a to b can begin."""
    passed, branches = passage(land, a, b)
    x = passed[0]
    positions = web_next(land.lamps[x], a[1][x], b[1][x])
    onward = [("go", y) for y, length in branches[x]]
    # the road to the next place of the way is gone once: when nothing is left to do on this side
    if len(onward) == 0 and len(positions) == 0:
        onward = [("go", y) for y in passed[1:2]]
    return tuple(onward + [("turn", q) for q in positions])
