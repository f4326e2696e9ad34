"""Runs: tuples of at most 2000 deeds, done one after the other."""

from lampwalks.deeds import length_of, refusal
from lampwalks.done import after
from lampwalks.errors import BadDeed, TooMany
from lampwalks.roads import is_number
from lampwalks.states import check_state, is_state

MOST_DEEDS = 2000


def check_many(run):
    """Raises TooMany for more deeds than a run can have."""
    if len(run) > MOST_DEEDS:
        raise TooMany(len(run))


def _gone(land, state, run):
    """Does the deeds until one is refused. Gives the states come to, from the first one on, and what refused it."""
    states = [state]
    for deed in run:
        which = refusal(land, states[-1], deed)
        if which is not None:
            return (states, which)
        states.append(after(states[-1], deed))
    return (states, None)


def _states_of(land, state, run):
    """The states that a run comes to, the first and the last one among them, where all is right with it."""
    check_state(land, state)
    check_many(run)
    states, which = _gone(land, state, run)
    if which is not None:
        raise BadDeed((len(states) - 1, which))
    return states


def _sum_of_costs(land, states, run):
    """The sum of the costs of deeds, each done at the state with its index."""
    return sum([length_of(land, before, deed) for before, deed in zip(states, run)])


def walked(land, state, run):
    """The state after the run."""
    return _states_of(land, state, run)[-1]


def run_cost(land, state, run):
    """The sum of the costs of the deeds."""
    return _sum_of_costs(land, _states_of(land, state, run), run)


def _taken_back(before, deed):
    """The deed that leads back to the state before a deed, from the state after it."""
    place, row = before
    if deed[0] == "go":
        return ("go", place)
    return ("turn", row[place])


def turned_run(land, state, run):
    """The run that leads from the end of the run back to the state."""
    states = _states_of(land, state, run)
    back = [_taken_back(before, deed) for before, deed in zip(states, run)]
    return tuple(back[::-1])


def run_right(land, a, run, b, price):
    """Whether a and b are states, and run is a run from a to b that costs price. All but land may be any value."""
    if not is_state(land, a) or not is_state(land, b):
        return False
    if not isinstance(run, tuple) or len(run) > MOST_DEEDS:
        return False
    states, which = _gone(land, a, run)
    if which is not None or states[-1] != b:
        return False
    return is_number(price) and _sum_of_costs(land, states, run) == price
