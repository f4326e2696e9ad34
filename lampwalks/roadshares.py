"""How often a road is crossed to a drawn state, and between two drawn states."""

from lampwalks.landroads import check_road, parted
from lampwalks.lands import check_tree
from lampwalks.shares import share
from lampwalks.states import check_state, rows_many, states_many


def road_shares(land, a, road):
    """The pairs (crossings, share of the states to which the road is crossed so often from a)."""
    check_tree(land)
    check_state(land, a)
    check_road(land, road)
    return _shares(crossing_counts(land, a[0], road))


def pair_shares(land, road):
    """The pairs (crossings, share of the pairs of states between which the road is crossed so often)."""
    check_tree(land)
    check_road(land, road)
    return _shares(pair_counts(land, road))


def crossing_counts(land, x, road):
    """To how many states the road is crossed 0, 1 and 2 times by a walker from x."""
    far = parted(land, road, x)
    whole = states_many(land)
    # the walker stays on this side, and the lamps beyond stay as they are
    none = (land.many - len(far)) * (whole // land.many // rows_many(land, far))
    once = len(far) * (whole // land.many)
    return (none, once, whole - none - once)


def pair_counts(land, road):
    """Between how many ordered pairs of states the road is crossed 0, 1 and 2 times."""
    far = parted(land, road, 0)
    near = tuple([x for x in range(land.many) if x not in far])
    rows = rows_many(land, near) * rows_many(land, far)
    whole = states_many(land) ** 2
    # both walkers are on one side, and the lamps of the other side are alike
    none = len(near) ** 2 * (rows ** 2 // rows_many(land, far)) + len(far) ** 2 * (rows ** 2 // rows_many(land, near))
    once = 2 * len(near) * len(far) * rows ** 2
    return (none, once, whole - none - once)


def _shares(counts):
    """The pairs (crossings, share of these counts), without shares of 0."""
    return tuple([(times, share(many, sum(counts))) for times, many in enumerate(counts) if many != 0])
