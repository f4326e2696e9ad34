"""How many ordered pairs of states lie at each price."""

from lampwalks.lands import check_few, check_tree
from lampwalks.polynomials import moved, poly_plus, product_of, tallied
from lampwalks.roads import lengths_from, outward
from lampwalks.spheres import beside_branch


def pair_sphere(land):
    """The price polynomial of all ordered pairs of states."""
    check_tree(land)
    check_few(land)
    hanging = outward(land.roads, 0)
    parts = {}
    # what hangs on a place is told before the place
    for x in list(hanging)[::-1]:
        parts[x] = _part(land.lamps[x], [(parts[y], length) for y, length in hanging[x]])
    alike, outside, one, far, near = parts[0]
    return near


def width(land):
    """The pair (greatest price of all, how many ordered pairs have it)."""
    return pair_sphere(land)[-1]


def _turning(lamp):
    """The price polynomial of all pairs of positions of a lamp."""
    return tallied([length for p in range(lamp.many) for length in lengths_from(lamp.roads, p).values()])


def _part(lamp, branches):
    """What is told of a place and all that hangs on it; branches has the same of each branch, with its road's length.

    It is: how many pairs of rows are alike, and the price polynomials of the pairs of which both walkers are outside
    (or at the place itself), only the first one is within, both are within and a lamp outside differs, both are
    within and no lamp outside differs. By turning all pairs round, only the second one within is as only the first.
    """
    alike = lamp.many
    # the walkers are at the place; one of them is in a branch; they are in two branches; they are in one
    none = _turning(lamp)
    one = ()
    two = ()
    same = ()
    # what is saved in one branch if no lamp differs outside of it, so that the walkers need not leave it
    saved = ()
    for told, length in branches:
        few, outside, inside, far, near = told
        side = beside_branch(few, outside, length)
        entered = moved(inside, length)
        left = moved(far, 2 * length)
        saved = poly_plus(_times(saved, few), _times(poly_plus(near, _times(left, -1)), alike))
        same = poly_plus(product_of(same, side), product_of(none, left))
        two = poly_plus(product_of(two, side), _times(product_of(one, entered), 2))
        one = poly_plus(product_of(one, side), product_of(none, entered))
        none = product_of(none, side)
        alike = alike * few
    far = poly_plus(poly_plus(none, _times(one, 2)), poly_plus(two, same))
    return (alike, none, poly_plus(none, one), far, poly_plus(far, saved))


def _times(poly, n):
    """The polynomial with all its numbers multiplied by n, which is not 0."""
    return product_of(poly, ((0, n),))
