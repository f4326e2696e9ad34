"""The ring of a land."""

from lampwalks.errors import NotRing
from lampwalks.landroads import parted
from lampwalks.lands import is_tree
from lampwalks.roads import tied


def ring(land):
    """The places of the ring, from the least one on, towards the lesser one of its two neighbours."""
    if is_tree(land):
        raise NotRing(0)
    around = _ring_roads(land)
    # roads are ascending, so the first one begins at the least place
    found = [around[0][0]]
    while len(found) < len(around):
        onward = [y for y, length in tied(around, found[-1]) if y not in found]
        found.append(onward[0])
    return tuple(found)


def _ring_roads(land):
    """The roads of the ring: just these can be left out, one at a time, and nothing is parted."""
    return [road for i, road in enumerate(land.roads) if len(parted(land, i, 0)) == 0]
