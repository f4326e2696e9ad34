"""The mean price between two drawn states."""

from lampwalks.lands import check_tree
from lampwalks.roads import lengths_from
from lampwalks.roadshares import pair_counts
from lampwalks.shares import plus, share


def pair_mean(land):
    """The mean of the price over all ordered pairs of states."""
    check_tree(land)
    whole = (0, 1)
    for lamp in land.lamps:
        lengths = [sum(lengths_from(lamp.roads, p).values()) for p in range(lamp.many)]
        whole = plus(whole, share(sum(lengths), lamp.many ** 2))
    for i, road in enumerate(land.roads):
        none, once, twice = pair_counts(land, i)
        whole = plus(whole, share(road[2] * (once + 2 * twice), none + once + twice))
    return whole
