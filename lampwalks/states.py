"""States: pairs (place of the walker, row of the positions of all lamps)."""

from lampwalks.errors import BadState
from lampwalks.roads import check_place, is_number


def check_row(land, row):
    """Raises BadState unless row has a position for each lamp."""
    if len(row) != land.many:
        raise BadState(len(row))
    for i, q in enumerate(row):
        if not 0 <= q < land.lamps[i].many:
            raise BadState((i,))


def check_state(land, state):
    """Raises BadPlace, then BadState, unless state is a state of the land."""
    place, row = state
    check_place(land.many, place)
    check_row(land, row)


def made_state(land, place, row):
    """The state with the walker at this place and the lamps in these positions."""
    check_state(land, (place, row))
    return (place, row)


def is_state(land, thing):
    """Whether thing, which may be any value, is a state of the land."""
    if not isinstance(thing, tuple) or len(thing) != 2:
        return False
    place, row = thing
    return _is_index(place, land.many) and _is_row(land, row)


def _is_row(land, thing):
    """Whether thing is a tuple of one position for each lamp."""
    if not isinstance(thing, tuple) or len(thing) != land.many:
        return False
    return all([_is_index(q, lamp.many) for q, lamp in zip(thing, land.lamps)])


def _is_index(thing, many):
    """Whether thing is a number from 0 to many - 1."""
    return is_number(thing) and 0 <= thing < many


def states_many(land):
    """The number of all states."""
    return land.many * rows_many(land, tuple(range(land.many)))


def rows_many(land, places):
    """The number of all ways to choose positions for the lamps of these places."""
    many = 1
    for x in places:
        many = many * land.lamps[x].many
    return many
