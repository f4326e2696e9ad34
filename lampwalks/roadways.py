"""What the roads cost between two states of a tree."""

from lampwalks.crossings import crossed_length, crossings
from lampwalks.lands import check_tree


def road_part(land, a, b):
    """The sum of the lengths of the roads, each as many times as it is crossed."""
    check_tree(land)
    return crossed_length(land, a, b)


def two_ways(land, a, b):
    """The indexes of the roads that are crossed twice."""
    return tuple([road for road, many in enumerate(crossings(land, a, b)) if many == 2])
