"""Webs: the positions of a lamp and the roads between them."""

from lampwalks.errors import BadSize
from lampwalks.roads import check_roads, check_together

MOST_POSITIONS = 6


class Web:
    """A web has many positions, 0 to many - 1, and roads (p, q, length) between them. It never changes."""

    def __init__(self, many, roads):
        self.many = many
        self.roads = roads

    def __eq__(self, other):
        return isinstance(other, Web) and self.many == other.many and self.roads == other.roads


def check_size(m, least):
    """Raises BadSize unless a web of a kind that has at least so many positions can have m of them."""
    if not least <= m <= MOST_POSITIONS:
        raise BadSize(m)


def made_web(m, roads):
    """The web with m positions and these roads."""
    check_size(m, 1)
    check_roads(m, roads)
    check_together(m, roads)
    return Web(m, roads)
