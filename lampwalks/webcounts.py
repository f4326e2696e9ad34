"""How many least ways a web has, and what lies on them."""

from lampwalks.roads import lengths_from
from lampwalks.webways import check_positions, nearer


def web_ways(web, p, q):
    """The pairs (steps, how many least ways from p to q have so many roads)."""
    check_positions(web, p, q)
    return ways_to(web, q)[p]


def ways_to(web, q):
    """A dict that has, for each position, the pairs (steps, how many least ways to q have so many roads)."""
    left = lengths_from(web.roads, q)
    found = {q: ((0, 1),)}
    # each next position is nearer to q, so its ways are counted before
    for x in sorted(left, key=lambda position: left[position])[1:]:
        found[x] = _ways_through([found[y] for y in nearer(web, left, x)])
    return found


def _ways_through(onward):
    """The pairs of the ways that begin with one road and go on as one of the tuples of pairs in onward tells."""
    counts = {}
    for ways in onward:
        for steps, many in ways:
            counts[steps + 1] = counts.get(steps + 1, 0) + many
    return tuple(sorted(counts.items()))


def web_inner(web, p, q):
    """The positions that lie on a least way from p to q, both ends among them."""
    check_positions(web, p, q)
    gone = lengths_from(web.roads, p)
    left = lengths_from(web.roads, q)
    return tuple([x for x in range(web.many) if gone[x] + left[x] == gone[q]])
