"""How many least ways a web has, and what lies on them."""

from lampwalks.roads import lengths_from
from lampwalks.webways import check_positions, web_next


def web_ways(web, p, q):
    """The pairs (steps, how many least ways from p to q have so many roads)."""
    check_positions(web, p, q)
    left = lengths_from(web.roads, q)
    counts = {q: {0: 1}}
    # each next position is nearer to q, so its ways are counted before
    for x in sorted(left, key=lambda position: left[position])[1:]:
        counts[x] = _ways_through([counts[y] for y in web_next(web, x, q)])
    return tuple(sorted(counts[p].items()))


def _ways_through(onward):
    """A dict of the ways by steps that begin with one road and go on as one of the dicts in onward tells."""
    counts = {}
    for ways in onward:
        for steps, many in ways.items():
            counts[steps + 1] = counts.get(steps + 1, 0) + many
    return counts


def web_inner(web, p, q):
    """The positions that lie on a least way from p to q, both ends among them."""
    check_positions(web, p, q)
    gone = lengths_from(web.roads, p)
    left = lengths_from(web.roads, q)
    return tuple([x for x in range(web.many) if gone[x] + left[x] == gone[q]])
