"""Least runs that set weighty lamps early."""

from lampwalks.crossings import changed
from lampwalks.deeds import length_of
from lampwalks.done import after
from lampwalks.errors import BadWorth
from lampwalks.lands import check_tree
from lampwalks.leastruns import check_ends, entered, joined, passage, turns
from lampwalks.runs import walked
from lampwalks.webways import web_apart

MOST_WEIGHT = 1000


def check_weights(land, weights):
    """Raises BadWorth unless there is a weight from 0 to 1000 for each place."""
    if len(weights) != land.many:
        raise BadWorth(len(weights))
    for i, weight in enumerate(weights):
        if not 0 <= weight <= MOST_WEIGHT:
            raise BadWorth((i,))


def waiting(land, a, b, weights):
    """The least sum of weight times wait over the changed lamps."""
    return waiting_of(land, a, waiting_run(land, a, b, weights), weights)


def waiting_run(land, a, b, weights):
    """A least run that has this sum."""
    check_ends(land, a, b)
    check_weights(land, weights)
    passed, branches = passage(land, a, b)
    deeds = {}
    blocks = {}
    # a branch is told before the place at which it is
    for x in list(branches)[::-1]:
        tasks = _lamp_task(land, a, b, weights, x)
        tasks.extend([_trip(blocks[y], y, length, x) for y, length in branches[x]])
        blocks[x] = _together(_in_order(tasks))
        deeds[x] = blocks[x][2]
    return entered(passed, deeds)


def _lamp_task(land, a, b, weights, x):
    """A list with the block (cost, weight, deeds) of the lamp of x, without one if it is not changed."""
    p = a[1][x]
    q = b[1][x]
    if p == q:
        return []
    return [(web_apart(land.lamps[x], p, q), weights[x], turns(land, a, b, x))]


def _trip(block, y, length, x):
    """The block of a branch: into its first place y, all that is to be done there, and back to x."""
    spent, weight, deeds = block
    return (spent + 2 * length, weight, (("go", y),) + deeds + (("go", x),))


def _in_order(blocks):
    """The blocks by cost over weight, the least first, those of weight 0 last."""
    common = 1
    for spent, weight, deeds in blocks:
        common = common * max(weight, 1)
    # each weight divides common, so these numbers are as cost over weight
    ranks = [(weight == 0, spent * common // max(weight, 1), i) for i, (spent, weight, deeds) in enumerate(blocks)]
    return [blocks[i] for light, rank, i in sorted(ranks)]


def _together(blocks):
    """One block of several that are done one after the other."""
    spent = sum([block[0] for block in blocks])
    weight = sum([block[1] for block in blocks])
    return (spent, weight, joined([block[2] for block in blocks]))


def waiting_of(land, a, run, weights):
    """The sum of weight times price spent up to the last turn, over the lamps that the run changes."""
    check_tree(land)
    end = walked(land, a, run)
    check_weights(land, weights)
    spent = 0
    waits = {}
    state = a
    for deed in run:
        spent += length_of(land, state, deed)
        if deed[0] == "turn":
            waits[state[0]] = spent
        state = after(state, deed)
    return sum([weights[x] * waits[x] for x in changed(land, a, end)])
