"""The text of a state: the place with a colon, then the positions of all lamps."""

from lampwalks.errors import BadText
from lampwalks.landtext import number_of
from lampwalks.states import check_state, is_state

MOST_DIGIT = 9


def state_text(land, state):
    """The text of the state."""
    check_state(land, state)
    place, row = state
    return " ".join([f"{place}:"] + [str(q) for q in row])


def state_of(land, text):
    """The state that has this text."""
    place, colon, positions = text.partition(": ")
    row = tuple([number_of(word, MOST_DIGIT) for word in positions.split(" ")])
    state = (number_of(place, MOST_DIGIT), row)
    if not is_state(land, state):
        raise BadText(0)
    return state
