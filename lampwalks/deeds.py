"""Deeds: ("go", place) and ("turn", position), what they cost, and which are possible."""

from lampwalks.errors import BadDeed
from lampwalks.roads import is_number, tied
from lampwalks.states import check_state

WORDS = ("go", "turn")


def _start(state, word):
    """The point from which a deed with this word starts: the walker's place, or the position of the lamp there."""
    place, row = state
    if word == "go":
        return place
    return row[place]


def _ground(land, state, word):
    """What has the points and roads along which a deed with this word moves: the land, or the lamp."""
    if word == "go":
        return land
    return land.lamps[state[0]]


def _steps(land, state, word):
    """The pairs (place or position, length) to which deeds with this word can lead."""
    return tied(_ground(land, state, word).roads, _start(state, word))


def is_deed(thing):
    """Whether thing, which may be any value, is a pair of a deed's word and a number."""
    if not isinstance(thing, tuple) or len(thing) != 2:
        return False
    return thing[0] in WORDS and is_number(thing[1])


def refusal(land, state, deed):
    """What BadDeed tells of a deed at this state: 0, 1 or 2, and None if the deed is possible."""
    if not is_deed(deed):
        return 0
    word, x = deed
    if not 0 <= x < _ground(land, state, word).many:
        return 1
    if x not in dict(_steps(land, state, word)):
        return 2
    return None


def check_deed(land, state, deed):
    """Raises the errors of the state, then BadDeed unless the deed is possible there."""
    check_state(land, state)
    which = refusal(land, state, deed)
    if which is not None:
        raise BadDeed(which)


def length_of(land, state, deed):
    """The cost of a deed that is possible at this state."""
    word, x = deed
    return dict(_steps(land, state, word))[x]


def cost(land, state, deed):
    """The cost of a deed."""
    check_deed(land, state, deed)
    return length_of(land, state, deed)


def offers(land, state):
    """All deeds that are possible, ascending."""
    check_state(land, state)
    return tuple([(word, x) for word in WORDS for x, length in _steps(land, state, word)])
