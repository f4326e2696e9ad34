"""A run of the least cost in a land with a ring."""

from lampwalks.crossings import crossed
from lampwalks.leastruns import turns
from lampwalks.ringgaps import ring_parts
from lampwalks.ringprices import ring_best


def ring_run(land, a, b):
    """A run from a to b that costs price: all roads that are needed in one trail, each lamp set when first come to."""
    trail = _trail(land, _ring_goings(land, a, b) + _bough_goings(land, a, b), a[0])
    run = []
    for i, x in enumerate(trail):
        if i > 0:
            run.append(("go", x))
        if x not in trail[:i]:
            run.extend(turns(land, a, b, x))
    return tuple(run)


def _ring_goings(land, a, b):
    """The pairs of places tied by the roads of the ring that are gone, each pair as often as its road is gone."""
    choice = ring_best(land, a, b)
    parts = ring_parts(land, a, b)
    once = parts[choice]
    twice = parts[1 - choice]
    goings = [road for length, roads in once for road in roads]
    # the longest part is left out
    for length, roads in sorted(twice)[:-1]:
        goings.extend(roads + roads)
    return goings


def _bough_goings(land, a, b):
    """The same of the other roads."""
    return [road[:2] for road, many in zip(land.roads, crossed(land, a, b)) for _ in range(many)]


def _trail(land, goings, start):
    """The places that a walker from start comes to, one after the other, going each pair of places just once.

    A walker who goes on while a way is left stops at the end of the trail. What was left aside are rounds; each one
    is gone from the last place at which it can be, so the trail is found from its end on.
    """
    onward = [[] for _ in range(land.many)]
    for x, y in goings:
        onward[x].append(y)
        onward[y].append(x)
    gone = [start]
    found = []
    while len(gone) > 0:
        x = gone[-1]
        if len(onward[x]) == 0:
            found.append(gone.pop())
        else:
            y = onward[x].pop()
            onward[y].remove(x)
            gone.append(y)
    return found[::-1]
