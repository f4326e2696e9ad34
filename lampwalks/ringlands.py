"""What hangs on the ring of a land, and where it is needed."""

from lampwalks.crossings import changed
from lampwalks.landring import ring
from lampwalks.roads import check_place, lengths_from


def hung(land, x):
    """The place of the ring at which x hangs."""
    places = ring(land)
    check_place(land.many, x)
    return _hook(land, places, x)


def _hook(land, places, x):
    """The one of the places of the ring to which roads lead from x that are not on the ring."""
    # a road between two places of the ring is on it: there is just one ring
    hanging = [road for road in land.roads if road[0] not in places or road[1] not in places]
    near = lengths_from(hanging, x)
    return [place for place in places if place in near][0]


def ring_needs(land, a, b):
    """The places of the ring at which a walker's place or a changed place hangs, in the order of the ring."""
    places = ring(land)
    points = changed(land, a, b) + (a[0], b[0])
    hooks = [_hook(land, places, x) for x in points]
    return tuple([place for place in places if place in hooks])
