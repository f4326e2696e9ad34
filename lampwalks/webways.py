"""Ways in a web, and their lengths."""

from lampwalks.roads import check_place, lengths_from, tied


def check_positions(web, p, q):
    """Raises BadPlace for p, then for q, unless it is a position of the web."""
    check_place(web.many, p)
    check_place(web.many, q)


def web_apart(web, p, q):
    """The least length of a way from p to q."""
    check_positions(web, p, q)
    return lengths_from(web.roads, p)[q]


def web_next(web, p, q):
    """The positions beside p with which a least way to q can begin."""
    check_positions(web, p, q)
    return nearer(web, lengths_from(web.roads, q), p)


def nearer(web, left, p):
    """The positions beside p with which a least way can begin, where left has the lengths that are left."""
    return tuple([x for x, length in tied(web.roads, p) if length + left[x] == left[p]])
