"""The roads of a land: what they tie, what they part."""

from lampwalks.errors import BadRoad
from lampwalks.lands import check_tree
from lampwalks.roads import check_place, lengths_from, tied


def beside(land, x):
    """The pairs (place, length) of the places tied to x."""
    check_place(land.many, x)
    return tied(land.roads, x)


def hull(land, places):
    """The indexes of the roads that part two of the places."""
    check_tree(land)
    for x in places:
        check_place(land.many, x)
    return _hull_of(far_sides(land), places)


def far_sides(land):
    """For each road of a tree the places that it parts from place 0."""
    return [parted(land, road, 0) for road in range(len(land.roads))]


def _hull_of(sides, places):
    """The indexes of the roads that part two of the places; sides is what far_sides tells."""
    return tuple([i for i, far in enumerate(sides) if 0 < len([x for x in places if x in far]) < len(places)])


def hull_length(land, sides, places):
    """The sum of the lengths of the roads that part two of the places; sides is what far_sides tells."""
    return sum([land.roads[i][2] for i in _hull_of(sides, places)])


def check_road(land, road):
    """Raises BadRoad unless road is the index of a road."""
    if not 0 <= road < len(land.roads):
        raise BadRoad(road)


def beyond(land, road, x):
    """The places that the road parts from x."""
    check_tree(land)
    check_road(land, road)
    check_place(land.many, x)
    return parted(land, road, x)


def parted(land, road, x):
    """The places to which no roads lead from x if the road with this index is left out."""
    near = lengths_from(land.roads[:road] + land.roads[road + 1:], x)
    return tuple([y for y in range(land.many) if y not in near])
