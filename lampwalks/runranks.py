"""The numbers of least runs."""

from lampwalks.deeds import refusal
from lampwalks.done import after
from lampwalks.errors import BadRow
from lampwalks.leastruns import check_ends, first_deeds
from lampwalks.runcounts import counted, lamp_ways
from lampwalks.runs import check_many


def run_rank(land, a, b, run):
    """The number of a least run, in the order of tuples of deeds. The entries of run may be any values."""
    check_ends(land, a, b)
    check_many(run)
    ways = lamp_ways(land, b)
    rank = 0
    state = a
    for i, deed in enumerate(run):
        deeds = first_deeds(land, state, b)
        if refusal(land, state, deed) is not None or deed not in deeds:
            raise BadRow(i)
        for lesser in deeds[:deeds.index(deed)]:
            rank += counted(land, ways, after(state, lesser), b)
        state = after(state, deed)
    if state != b:
        raise BadRow(len(run))
    return rank
