"""States from which no deed leads farther away."""

from lampwalks.deeds import offers
from lampwalks.done import after
from lampwalks.leastruns import check_ends
from lampwalks.prices import price


def is_dead(land, a, x):
    """Whether no deed at x leads to a state with a greater price from a."""
    return dead_why(land, a, x) is None


def dead_why(land, a, x):
    """The first deed at x that leads to a state with a greater price from a; None if there is none."""
    check_ends(land, a, x)
    reached = price(land, a, x)
    for deed in offers(land, x):
        if price(land, a, after(x, deed)) > reached:
            return deed
    return None
