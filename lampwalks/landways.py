"""Ways in a land, and their lengths."""

from lampwalks.lands import check_tree
from lampwalks.roads import check_place, lengths_from


def way(land, x, y):
    """The places from x to y, both with it."""
    check_tree(land)
    check_place(land.many, x)
    check_place(land.many, y)
    gone = lengths_from(land.roads, x)
    left = lengths_from(land.roads, y)
    passed = [place for place in range(land.many) if gone[place] + left[place] == gone[y]]
    return tuple(sorted(passed, key=lambda place: gone[place]))


def apart(land, x, y):
    """The least length of a way from x to y."""
    check_place(land.many, x)
    check_place(land.many, y)
    return lengths_from(land.roads, x)[y]
