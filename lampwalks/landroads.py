"""The roads of a land: what they tie, what they part."""

from lampwalks.errors import BadRoad
from lampwalks.lands import check_tree
from lampwalks.roads import check_place, lengths_from, tied


def beside(land, x):
    """The pairs (place, length) of the places tied to x."""
    check_place(land.many, x)
    return tied(land.roads, x)


def hull(land, places):
    """The indexes of the roads that part two of the places."""
    check_tree(land)
    for x in places:
        check_place(land.many, x)
    if len(places) == 0:
        return ()
    return tuple([i for i in range(len(land.roads)) if _parts(land, i, places)])


def _parts(land, road, places):
    """Whether the road parts two of the places: then it parts the first one from some other one."""
    far = parted(land, road, places[0])
    return any([x in far for x in places])


def beyond(land, road, x):
    """The places that the road parts from x."""
    check_tree(land)
    if not 0 <= road < len(land.roads):
        raise BadRoad(road)
    check_place(land.many, x)
    return parted(land, road, x)


def parted(land, road, x):
    """The places to which no roads lead from x if the road with this index is left out."""
    near = lengths_from(land.roads[:road] + land.roads[road + 1:], x)
    return tuple([y for y in range(land.many) if y not in near])
