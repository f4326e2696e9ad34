"""Least runs to a row of lamps, or from one row to another one, where the walker may stand anywhere."""

from lampwalks.crossings import differing
from lampwalks.lampparts import rows_part
from lampwalks.landroads import far_sides, hull_length
from lampwalks.lands import check_tree
from lampwalks.roads import lengths_from
from lampwalks.states import check_row, check_state


def check_wish(land, a, row):
    """Raises NotTree, the errors of the state a, then BadState for the row."""
    check_tree(land)
    check_state(land, a)
    check_row(land, row)


def walk_lengths(land, sides, x, places):
    """The least length of a walk from x to all the places and back, and how much of it is saved without the way back.

    What is saved is the length to the farthest place of the hull; that place is among those to be come to.
    """
    points = (x,) + places
    lengths = lengths_from(land.roads, x)
    return (2 * hull_length(land, sides, points), max([lengths[y] for y in points]))


def open_price(land, a, row):
    """The least price of a run from a to these lamps, wherever it ends."""
    check_wish(land, a, row)
    whole, saved = walk_lengths(land, far_sides(land), a[0], differing(a[1], row))
    return rows_part(land, a[1], row) + whole - saved


def open_ends(land, a, row):
    """The places at which a run of open_price can end."""
    check_wish(land, a, row)
    points = (a[0],) + differing(a[1], row)
    lengths = lengths_from(land.roads, a[0])
    saved = max([lengths[x] for x in points])
    return tuple([x for x in range(land.many) if x in points and lengths[x] == saved])


def round_price(land, a, row):
    """The least price of a run from a to these lamps that ends at a's place."""
    check_wish(land, a, row)
    whole, saved = walk_lengths(land, far_sides(land), a[0], differing(a[1], row))
    return rows_part(land, a[1], row) + whole


def _check_rows(land, one, two):
    """Raises NotTree, then BadState for one, then for two."""
    check_tree(land)
    check_row(land, one)
    check_row(land, two)


def _lengths_between(land, places):
    """A dict that has for each ordered pair of the places the length between them."""
    lengths = {x: lengths_from(land.roads, x) for x in places}
    return {(x, y): lengths[x][y] for x in places for y in places}


def free_price(land, one, two):
    """The least price of a run from any state with the row one to any state with the row two."""
    _check_rows(land, one, two)
    places = differing(one, two)
    saved = max(_lengths_between(land, places).values(), default=0)
    return rows_part(land, one, two) + 2 * hull_length(land, far_sides(land), places) - saved


def free_pairs(land, one, two):
    """The pairs (place at the start, place at the end) of the runs of free_price."""
    _check_rows(land, one, two)
    places = differing(one, two)
    if len(places) == 0:
        return tuple([(x, x) for x in range(land.many)])
    lengths = _lengths_between(land, places)
    saved = max(lengths.values())
    return tuple([pair for pair, length in lengths.items() if length == saved])
