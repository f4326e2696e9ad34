"""The two choices of a walker in a land with a ring: which stretch is gone once, which gap of the other left out."""

from lampwalks.landring import ring
from lampwalks.ringlands import hung, ring_needs


def ring_choices(land, a, b):
    """What the ring costs if the stretch in its order is gone once, and if the other stretch is."""
    one, two = [[length for length, roads in parts] for parts in ring_parts(land, a, b)]
    # the first stretch has no parts if both walkers hang at one place
    return (sum(one) + 2 * (sum(two) - max(two)), sum(two) + 2 * (sum(one) - max(one, default=0)))


def ring_parts(land, a, b):
    """The two stretches of the ring, the one in its order first, each cut at the places that are needed.

    A part is a pair (length, list of its roads).
    """
    needs = ring_needs(land, a, b)
    places = ring(land)
    at = places.index(hung(land, a[0]))
    around = places[at:] + places[:at + 1]
    steps = around.index(hung(land, b[0]))
    return (_cut(land, needs, around[:steps + 1]), _cut(land, needs, around[steps:]))


def _cut(land, needs, stretch):
    """The parts of a stretch that begins and ends at places that are needed."""
    lengths = {(x, y): length for x, y, length in land.roads}
    parts = []
    whole = 0
    roads = []
    for pair in zip(stretch, stretch[1:]):
        x, y = sorted(pair)
        whole += lengths[(x, y)]
        roads.append((x, y))
        if pair[1] in needs:
            parts.append((whole, roads))
            whole = 0
            roads = []
    return parts
