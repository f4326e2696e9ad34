"""The states of one price by their numbers, found by narrowing the sphere: the place first, then lamp by lamp."""

from lampwalks.errors import BadCount
from lampwalks.lands import check_few, check_tree
from lampwalks.prices import price
from lampwalks.spheres import let_rows, narrow_sphere
from lampwalks.states import check_state


def _many_at(land, a, r, ends, rows):
    """How many states with the price r from a have these ends and rows."""
    return dict(narrow_sphere(land, a, ends, rows)).get(r, 0)


def _starting(land, row, positions):
    """The rows in which the first lamps stand as in row, the next one in one of the positions."""
    fixed = tuple([(q,) for q in row]) + (positions,)
    return fixed + let_rows(land, None)[len(fixed):]


def _part_of(counts, k):
    """The index of the part that has the thing with the number k, and its number within the part."""
    i = 0
    while k >= counts[i]:
        k = k - counts[i]
        i += 1
    return (i, k)


def nth_at(land, a, r, k):
    """The state with the index k among all states with the price r from a."""
    check_tree(land)
    check_state(land, a)
    check_few(land)
    counts = [_many_at(land, a, r, (x,), let_rows(land, None)) for x in range(land.many)]
    if sum(counts) == 0:
        raise BadCount(r)
    if not 0 <= k < sum(counts):
        raise BadCount(k)
    place, k = _part_of(counts, k)
    row = ()
    for lamp in land.lamps:
        counts = [_many_at(land, a, r, (place,), _starting(land, row, (q,))) for q in range(lamp.many)]
        q, k = _part_of(counts, k)
        row = row + (q,)
    return (place, row)


def rank_at(land, a, b):
    """The number of states that are less than b and have its price from a."""
    check_tree(land)
    check_state(land, a)
    check_state(land, b)
    check_few(land)
    r = price(land, a, b)
    place, row = b
    rank = _many_at(land, a, r, tuple(range(place)), let_rows(land, None))
    for i, q in enumerate(row):
        rank += _many_at(land, a, r, (place,), _starting(land, row[:i], tuple(range(q))))
    return rank
