"""How many states lie between two others, by their price from the first one."""

from lampwalks.landways import apart
from lampwalks.leastruns import check_ends, passage
from lampwalks.polynomials import moved, poly_plus, product_of, tallied
from lampwalks.webcounts import web_inner
from lampwalks.webways import web_apart

ONE = ((0, 1),)


def between_sphere(land, a, b):
    """The price polynomial of the states between a and b."""
    check_ends(land, a, b)
    passed, branches = passage(land, a, b)
    spheres = {}
    spent = {}
    # a branch is told before the place at which it is
    for x in list(branches)[::-1]:
        trips = [(spheres[y], spent[y] + 2 * length, length) for y, length in branches[x]]
        spheres[x] = product_of(_own_sphere(land, a, b, x), _trips_sphere(trips))
        spent[x] = web_apart(land.lamps[x], a[1][x], b[1][x]) + sum([whole for inside, whole, length in trips])
    return _along(land, passed, spheres, spent)


def _own_sphere(land, a, b, x):
    """The price polynomial of the inner positions of the lamp of x."""
    lamp = land.lamps[x]
    p = a[1][x]
    return tallied([web_apart(lamp, p, q) for q in web_inner(lamp, p, b[1][x])])


def _trips_sphere(trips):
    """The price polynomial of what is done in the branches at a place, the walker there or in one of them.

    A trip has the polynomial of a walker within the branch, what it costs as a whole, and the length of its road.
    """
    outside = ONE
    inside = ()
    for sphere, whole, length in trips:
        done_or_not = ((0, 1), (whole, 1))
        entered = product_of(outside, moved(sphere, length))
        inside = poly_plus(product_of(inside, done_or_not), entered)
        outside = product_of(outside, done_or_not)
    return poly_plus(outside, inside)


def _along(land, passed, spheres, spent):
    """The sum of the polynomials of the places of the way, each one behind all that is done before."""
    whole = ()
    before = 0
    for x in passed:
        whole = poly_plus(whole, moved(spheres[x], before + apart(land, passed[0], x)))
        before += spent[x]
    return whole
