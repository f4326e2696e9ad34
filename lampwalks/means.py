"""Means over all states, and the states by their numbers."""

from lampwalks.errors import BadCount
from lampwalks.lands import check_tree
from lampwalks.roads import lengths_from
from lampwalks.roadshares import crossing_counts
from lampwalks.shares import share
from lampwalks.states import check_state, states_many

FACTOR = 1000003


def lamp_mean(land, a):
    """The mean of what the lamps cost from a to a state."""
    check_tree(land)
    check_state(land, a)
    return share(_lamps_sum(land, a), states_many(land))


def mean_price(land, a):
    """The mean price from a to a state."""
    check_tree(land)
    check_state(land, a)
    return share(price_sum(land, a), states_many(land))


def _lamps_sum(land, a):
    """The sum, over all states, of what the lamps cost from a."""
    whole = states_many(land)
    return sum([sum(lengths_from(lamp.roads, p).values()) * (whole // lamp.many) for lamp, p in zip(land.lamps, a[1])])


def price_sum(land, a):
    """The sum, over all states, of the prices from a."""
    spent = _lamps_sum(land, a)
    for i, road in enumerate(land.roads):
        none, once, twice = crossing_counts(land, a[0], i)
        spent += road[2] * (once + 2 * twice)
    return spent


def nth_state(land, k):
    """The state with the number k, in ascending order."""
    check_tree(land)
    if not 0 <= k < states_many(land):
        raise BadCount(k)
    row = ()
    for lamp in reversed(land.lamps):
        k, q = divmod(k, lamp.many)
        row = (q,) + row
    return (k, row)


def state_rank(land, state):
    """The number of a state, in ascending order."""
    check_tree(land)
    check_state(land, state)
    rank, row = state
    for lamp, q in zip(land.lamps, row):
        rank = rank * lamp.many + q
    return rank


def drawn(land, digits):
    """The state that the digits draw: each one moves on to another number of a state."""
    check_tree(land)
    if len(digits) == 0:
        raise BadCount(0)
    r = 0
    for digit in digits:
        r = (r * FACTOR + digit) % states_many(land)
    return nth_state(land, r)
