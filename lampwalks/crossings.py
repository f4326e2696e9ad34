"""What differs in two states, and how often each road is crossed between them."""

from lampwalks.landroads import parted
from lampwalks.lands import check_tree
from lampwalks.states import check_state


def changed(land, a, b):
    """The places whose lamps have different positions in a and b."""
    check_state(land, a)
    check_state(land, b)
    return differing(a[1], b[1])


def differing(one, two):
    """The places whose lamps have different positions in two rows."""
    return tuple([place for place in range(len(one)) if one[place] != two[place]])


def crossings(land, a, b):
    """How often each road is crossed on the way from a to b, in the order of the roads."""
    check_tree(land)
    return crossed(land, a, b)


def crossed(land, a, b):
    """How often each road is crossed because it parts something; in any land, with 0 for the roads of a ring."""
    places = changed(land, a, b)
    return tuple([_crossed(parted(land, road, a[0]), b[0], places) for road in range(len(land.roads))])


def crossed_length(land, a, b):
    """The sum of the lengths of the roads, each as many times as it is crossed because it parts something."""
    return sum([many * road[2] for many, road in zip(crossed(land, a, b), land.roads)])


def _crossed(far, end, places):
    """How often a road is crossed by a walker who sees far beyond it, comes to end and changes these places."""
    if end in far:
        return 1
    if any([place in far for place in places]):
        return 2
    return 0
