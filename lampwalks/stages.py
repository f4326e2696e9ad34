"""Least runs that bring the lamps to several rows, one after the other."""

from lampwalks.crossings import differing
from lampwalks.errors import TooMany
from lampwalks.lampparts import rows_part
from lampwalks.landroads import far_sides, hull_length
from lampwalks.lands import check_tree
from lampwalks.roads import lengths_from
from lampwalks.states import check_row, check_state

MOST_ROWS = 20


def stages(land, a, rows):
    """The least price of a run from a that brings the lamps to each of the rows in turn."""
    _check(land, a, rows)
    return _least_left(land, _tables(land, a, rows))[0][a[0]]


def stage_ends(land, a, rows):
    """The first tuple of places, one for each row, at which a run of the price of stages can be then."""
    _check(land, a, rows)
    tables = _tables(land, a, rows)
    left = _least_left(land, tables)
    ends = [a[0]]
    for table, behind in zip(tables, left[1:]):
        prices = [table[(ends[-1], y)] + behind[y] for y in range(land.many)]
        ends.append(prices.index(min(prices)))
    return tuple(ends[1:])


def _check(land, a, rows):
    """Raises NotTree, the errors of the state a, TooMany, then BadState for the rows."""
    check_tree(land)
    check_state(land, a)
    if not 1 <= len(rows) <= MOST_ROWS:
        raise TooMany(len(rows))
    for row in rows:
        check_row(land, row)


def _tables(land, a, rows):
    """For each stage a dict of the prices from each place with the row before to each place with the row."""
    sides = far_sides(land)
    lengths = [lengths_from(land.roads, x) for x in range(land.many)]
    before = (a[1],) + rows[:-1]
    return [_table(land, sides, lengths, one, two) for one, two in zip(before, rows)]


def _table(land, sides, lengths, one, two):
    """A dict of the prices from each place with the row one to each place with the row two."""
    lamps = rows_part(land, one, two)
    places = differing(one, two)
    # all roads of the hull are gone twice but those between the two places of the walker
    return {(x, y): lamps + 2 * hull_length(land, sides, (x, y) + places) - lengths[x][y]
            for x in range(land.many) for y in range(land.many)}


def _least_left(land, tables):
    """For each number of stages gone, the end counted, the least prices of the others, by the place then."""
    left = [[0] * land.many]
    for table in reversed(tables):
        behind = left[-1]
        left.append([min([table[(x, y)] + behind[y] for y in range(land.many)]) for x in range(land.many)])
    return left[::-1]
