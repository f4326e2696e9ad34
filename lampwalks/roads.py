"""What webs and lands have in common: points 0 to many - 1, tied by roads (p, q, length)."""

from heapq import heappop, heappush

from lampwalks.errors import BadLength, BadPlace, BadRoad, Parted

SHORTEST = 1
LONGEST = 100


def is_number(thing):
    """Whether thing is a number. True and False are none, although they are of int."""
    return isinstance(thing, int) and not isinstance(thing, bool)


def is_length(length):
    """Whether a road may have this length."""
    return SHORTEST <= length <= LONGEST


def check_place(many, x):
    """Raises BadPlace unless x is one of the points."""
    if not 0 <= x < many:
        raise BadPlace(x)


def _is_road(many, thing):
    """Whether thing is a triple of numbers of which the first two are points p < q."""
    if not isinstance(thing, tuple) or len(thing) != 3:
        return False
    if not all([is_number(part) for part in thing]):
        return False
    return 0 <= thing[0] < thing[1] < many


def check_roads(many, roads):
    """Raises BadRoad for the first entry that is no road or stands out of order, then BadLength."""
    for i, road in enumerate(roads):
        if not _is_road(many, road):
            raise BadRoad(i)
        if i > 0 and road[:2] <= roads[i - 1][:2]:
            raise BadRoad(i)
    for i, road in enumerate(roads):
        if not is_length(road[2]):
            raise BadLength(i)


def check_together(many, roads):
    """Raises Parted for the least point to which no roads lead from 0."""
    found = lengths_from(roads, 0)
    for x in range(many):
        if x not in found:
            raise Parted(x)


def tied(roads, x):
    """The pairs (point, length) of the points tied to x, ascending."""
    # roads are ascending, so each of the two parts is ascending, and the points of the first one are below x
    before = [(p, length) for p, q, length in roads if q == x]
    behind = [(q, length) for p, q, length in roads if p == x]
    return tuple(before + behind)


def lengths_from(roads, x):
    """A dict that has the least length of a way from x to each point to which roads lead from x."""
    found = {}
    queue = [(0, x)]
    while len(queue) > 0:
        length, p = heappop(queue)
        if p not in found:
            found[p] = length
            for q, further in tied(roads, p):
                heappush(queue, (length + further, q))
    return found


def outward(roads, root):
    """A dict that has, for each point of a tree, the pairs (point, length) that hang on it as the root sees them.

    The root is the first key, and each other point stands behind the one on which it hangs.
    """
    found = {}
    queue = [(root, root)]
    while len(queue) > 0:
        x, before = queue.pop()
        found[x] = tuple([(y, length) for y, length in tied(roads, x) if y != before])
        for y, length in found[x]:
            queue.append((y, x))
    return found


def path(hanging, x):
    """The points from the root to x, both with it; hanging is what outward tells."""
    holder = {y: p for p, row in hanging.items() for y, length in row}
    found = [x]
    while found[-1] in holder:
        found.append(holder[found[-1]])
    return tuple(found[::-1])
