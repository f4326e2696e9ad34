"""The two choices of a walker in a land with a ring: which stretch is gone once, which gap of the other left out."""

from lampwalks.landring import ring
from lampwalks.ringlands import hung, ring_needs


def ring_choices(land, a, b):
    """What the ring costs if the stretch in its order is gone once, and if the other stretch is."""
    needs = ring_needs(land, a, b)
    one, two = _stretches(ring(land), hung(land, a[0]), hung(land, b[0]))
    one_length, one_gap = _measured(land, needs, one)
    two_length, two_gap = _measured(land, needs, two)
    return (one_length + 2 * (two_length - two_gap), two_length + 2 * (one_length - one_gap))


def _stretches(places, start, end):
    """The places of the ring from start to end in its order, and from end on to start, all with both ends."""
    at = places.index(start)
    around = places[at:] + places[:at]
    steps = around.index(end)
    return (around[:steps + 1], around[steps:] + (start,))


def _measured(land, needs, stretch):
    """The length of a stretch, and the greatest length on it between two of its needs that are next to one another."""
    lengths = {(x, y): length for x, y, length in land.roads}
    whole = 0
    gap = 0
    free = 0
    for x, y in zip(stretch, stretch[1:]):
        length = lengths[(min(x, y), max(x, y))]
        whole += length
        free += length
        # the ends are among the needs, so the last gap is seen
        if y in needs:
            gap = max(gap, free)
            free = 0
    return (whole, gap)
