"""The least cost of a run from one state to another."""

from lampwalks.crossings import crossed_length
from lampwalks.lampparts import lamp_part
from lampwalks.lands import is_tree
from lampwalks.ringgaps import ring_choices


def price(land, a, b):
    """The least cost of a run from a to b, in any land."""
    outside = lamp_part(land, a, b) + crossed_length(land, a, b)
    if is_tree(land):
        return outside
    first, second = ring_choices(land, a, b)
    return outside + min(first, second)


def lies_between(land, a, x, b):
    """Whether the price from a to b is that from a to x and that from x to b together."""
    return price(land, a, x) + price(land, x, b) == price(land, a, b)
