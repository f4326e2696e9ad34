"""Ways in a land, and their lengths."""

from lampwalks.lands import check_tree
from lampwalks.roads import check_place, lengths_from, outward, path


def way(land, x, y):
    """The places from x to y, both with it."""
    check_tree(land)
    check_place(land.many, x)
    check_place(land.many, y)
    return path(outward(land.roads, x), y)


def apart(land, x, y):
    """The least length of a way from x to y."""
    check_place(land.many, x)
    check_place(land.many, y)
    return lengths_from(land.roads, x)[y]
