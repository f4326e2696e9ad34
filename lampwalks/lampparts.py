"""What the lamps cost between two states."""

from lampwalks.states import check_state
from lampwalks.webways import web_apart


def lamp_part(land, a, b):
    """The sum, over all lamps, of the least lengths from the position in a to that in b."""
    check_state(land, a)
    check_state(land, b)
    return sum([web_apart(lamp, p, q) for lamp, p, q in zip(land.lamps, a[1], b[1])])
