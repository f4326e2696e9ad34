"""What the lamps cost between two states."""

from lampwalks.states import check_state
from lampwalks.webways import web_apart


def lamp_part(land, a, b):
    """The sum, over all lamps, of the least lengths from the position in a to that in b."""
    check_state(land, a)
    check_state(land, b)
    return rows_part(land, a[1], b[1])


def rows_part(land, one, two):
    """The sum, over all lamps, of the least lengths from the position in one row to that in the other one."""
    return sum([web_apart(lamp, p, q) for lamp, p, q in zip(land.lamps, one, two)])
