"""The least price for a worth of lamps."""

from lampwalks.purses import check_worths, told_sets


def least_for(land, a, wish, worths, need, *, back=False):
    """The triple (price, worth, set) of the least price for at least this worth, the greatest worth, the first set.

    It is None if all unlike places together are not worth so much.
    """
    check_worths(land, a, wish, worths)
    ranks = [(spent, -worth, places) for spent, worth, places in told_sets(land, a, wish, worths, back)
             if worth >= need]
    if len(ranks) == 0:
        return None
    spent, less, places = min(ranks)
    return (spent, -less, places)
