"""Lands: places tied by roads, with a lamp at each place."""

from lampwalks.errors import BadLamp, BadSize, NotTree, TooMany
from lampwalks.roads import check_roads, check_together
from lampwalks.webs import Web

MOST_PLACES = 10
FEW_PLACES = 6


class Land:
    """A land has many places, 0 to many - 1, roads (x, y, length), and a web for each place. It never changes."""

    def __init__(self, many, roads, lamps):
        self.many = many
        self.roads = roads
        self.lamps = lamps

    def __eq__(self, other):
        return (isinstance(other, Land) and self.many == other.many
                and self.roads == other.roads and self.lamps == other.lamps)


def _check_lamps(n, lamps):
    """Raises BadLamp unless there is a web for each of n places."""
    if len(lamps) != n:
        raise BadLamp(len(lamps))
    for i, lamp in enumerate(lamps):
        if not isinstance(lamp, Web):
            raise BadLamp((i,))


def made_land(n, roads, lamps):
    """The land with n places, these roads and these lamps."""
    if not 1 <= n <= MOST_PLACES:
        raise BadSize(n)
    check_roads(n, roads)
    if len(roads) > n:
        raise BadSize(len(roads))
    check_together(n, roads)
    _check_lamps(n, lamps)
    return Land(n, roads, lamps)


def is_tree(land):
    """Whether the land has no ring."""
    return len(land.roads) == land.many - 1


def check_tree(land):
    """Raises NotTree if the land has a ring."""
    if not is_tree(land):
        raise NotTree(0)


def check_few(land):
    """Raises TooMany for a land of more than 6 places."""
    if land.many > FEW_PLACES:
        raise TooMany(land.many)
