"""How many states lie at each price."""

from lampwalks.errors import BadEnds, BadRow, BadState
from lampwalks.lands import check_tree
from lampwalks.polynomials import moved, poly_plus, product_of, tallied
from lampwalks.roads import lengths_from, outward
from lampwalks.states import check_state


def sphere(land, a, *, ends=None, rows=None):
    """The price polynomial of all states from a, or of those that ends and rows let."""
    check_narrowed(land, a, ends, rows)
    return narrow_sphere(land, a, let_ends(land, ends), let_rows(land, rows))


def check_narrowed(land, a, ends, rows):
    """Raises NotTree, the errors of the state a, of ends, and of rows; None of these two has none."""
    check_tree(land)
    check_state(land, a)
    if ends is not None:
        _check_ends(land, ends)
    if rows is not None:
        _check_rows(land, rows)


def _first_wrong(many, numbers):
    """The first index whose number is not 0 to many - 1 or not above the one before; None if there is none."""
    for i, number in enumerate(numbers):
        if not 0 <= number < many:
            return i
        if i > 0 and number <= numbers[i - 1]:
            return i
    return None


def _check_ends(land, ends):
    """Raises BadEnds unless ends are some places, strictly ascending."""
    if len(ends) == 0:
        raise BadEnds(-1)
    wrong = _first_wrong(land.many, ends)
    if wrong is not None:
        raise BadEnds(wrong)


def _check_rows(land, rows):
    """Raises BadState or BadRow unless rows has for each lamp some of its positions, strictly ascending."""
    if len(rows) != land.many:
        raise BadState(len(rows))
    for i, row in enumerate(rows):
        if len(row) == 0 or _first_wrong(land.lamps[i].many, row) is not None:
            raise BadRow((i,))


def let_ends(land, ends):
    """The places that ends let, which may be None."""
    if ends is None:
        return tuple(range(land.many))
    return ends


def let_rows(land, rows):
    """The positions of each lamp that rows let, which may be None."""
    if rows is None:
        return tuple([tuple(range(lamp.many)) for lamp in land.lamps])
    return rows


def narrow_sphere(land, a, ends, rows):
    """The price polynomial of the states with these ends and rows, which may also be empty."""
    hanging = outward(land.roads, a[0])
    parts = {}
    # what hangs on a place is told before the place
    for x in list(hanging)[::-1]:
        lengths = lengths_from(land.lamps[x].roads, a[1][x])
        own = tallied([lengths[q] for q in rows[x]])
        parts[x] = _part(own, x in ends, [(parts[y], length) for y, length in hanging[x]])
    unchanged, outside, inside = parts[a[0]]
    return inside


def _part(own, is_end, branches):
    """What is told of a place and all that hangs on it; branches has the same of each branch, with its road's length.

    It is: the number of rows in which no lamp there is changed, 1 or 0, and the price polynomials of the states of
    which the walker is outside (or only comes by), and of which the walker is within.
    """
    unchanged = dict(own).get(0, 0)
    outside = own
    inside = ()
    for told, length in branches:
        few, without, within = told
        side = beside_branch(few, without, length)
        inside = poly_plus(product_of(inside, side), product_of(outside, moved(within, length)))
        outside = product_of(outside, side)
        unchanged = unchanged * few
    if is_end:
        inside = poly_plus(inside, outside)
    return (unchanged, outside, inside)


def beside_branch(unchanged, outside, length):
    """The price polynomial of a branch with no walker within: its road is gone twice, unless no lamp there changes."""
    changing = poly_plus(outside, ((0, -unchanged),))
    return poly_plus(((0, unchanged),), moved(changing, 2 * length))
