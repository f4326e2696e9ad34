"""The greatest worth of lamps that can be set within a purse."""

from lampwalks.crossings import differing
from lampwalks.errors import BadPurse
from lampwalks.freeends import check_wish, walk_lengths
from lampwalks.landroads import far_sides
from lampwalks.waiting import check_weights
from lampwalks.webways import web_apart


def best(land, a, wish, worths, purse, *, back=False):
    """The triple (worth, price, set) of the greatest worth that the purse lets, the least price, the first set."""
    check_worths(land, a, wish, worths)
    if purse < 0:
        raise BadPurse(purse)
    ranks = [(-worth, spent, places) for spent, worth, places in told_sets(land, a, wish, worths, back)
             if spent <= purse]
    less, spent, places = min(ranks)
    return (-less, spent, places)


def check_worths(land, a, wish, worths):
    """Raises NotTree, the errors of the state a, of the row wish, then BadWorth."""
    check_wish(land, a, wish)
    check_weights(land, worths)


def told_sets(land, a, wish, worths, back):
    """The triples (price, worth, set) of all sets of unlike places."""
    sets = [()]
    for x in differing(a[1], wish):
        sets = sets + [places + (x,) for places in sets]
    sides = far_sides(land)
    lamps = [web_apart(lamp, p, q) for lamp, p, q in zip(land.lamps, a[1], wish)]
    told = []
    for places in sets:
        whole, saved = walk_lengths(land, sides, a[0], places)
        if back:
            saved = 0
        spent = whole - saved + sum([lamps[x] for x in places])
        told.append((spent, sum([worths[x] for x in places]), places))
    return told
