"""Webs of some usual shapes, with roads of one length."""

from lampwalks.errors import BadLength
from lampwalks.roads import is_length
from lampwalks.webs import check_size, made_web

LEAST_WHEEL = 3


def _check_length(length):
    """Raises BadLength with the length itself: the caller gave no road that could have an index."""
    if not is_length(length):
        raise BadLength(length)


def _line(m, length):
    """The roads of 0 - 1 - .. - m - 1."""
    return [(p, p + 1, length) for p in range(m - 1)]


def alone():
    """A web with one position."""
    return made_web(1, ())


def pair_web(length):
    """A web with two positions and a road."""
    _check_length(length)
    return made_web(2, ((0, 1, length),))


def line_web(m, length):
    """A web whose positions stand in a line."""
    check_size(m, 1)
    _check_length(length)
    return made_web(m, tuple(_line(m, length)))


def wheel_web(m, length):
    """A web whose positions stand in a ring."""
    check_size(m, LEAST_WHEEL)
    _check_length(length)
    return made_web(m, tuple(sorted(_line(m, length) + [(0, m - 1, length)])))


def star_web(m, length):
    """A web in which position 0 is tied to each other one."""
    check_size(m, 1)
    _check_length(length)
    return made_web(m, tuple([(0, q, length) for q in range(1, m)]))
