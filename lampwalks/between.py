"""Whether a state lies between two others."""

from lampwalks.prices import lies_between
from lampwalks.states import is_state


def between(land, a, x, b):
    """Whether a, x and b, which may be any values, are states and x costs nothing more on the way from a to b."""
    if not all([is_state(land, thing) for thing in (a, x, b)]):
        return False
    return lies_between(land, a, x, b)
