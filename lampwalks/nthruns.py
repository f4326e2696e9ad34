"""The least runs by their numbers."""

from lampwalks.done import after
from lampwalks.errors import BadCount
from lampwalks.leastruns import check_ends, first_deeds
from lampwalks.runcounts import counted, lamp_ways


def nth_run(land, a, b, k):
    """The least run with the number k, in the order of tuples of deeds."""
    check_ends(land, a, b)
    ways = lamp_ways(land, b)
    if not 0 <= k < counted(land, ways, a, b):
        raise BadCount(k)
    run = []
    state = a
    while state != b:
        deed, k = _next_deed(land, ways, state, b, k)
        run.append(deed)
        state = after(state, deed)
    return tuple(run)


def _next_deed(land, ways, state, b, k):
    """The first deed of the least run from state to b with the number k, and the number of what is left of the run."""
    deeds = first_deeds(land, state, b)
    for deed in deeds[:-1]:
        many = counted(land, ways, after(state, deed), b)
        if k < many:
            return (deed, k)
        k = k - many
    return (deeds[-1], k)
