"""What each purse is worth to a walker who comes back."""

from lampwalks.purses import check_worths, told_sets


def table(land, a, wish, worths):
    """The pairs (price, worth): the prices at which the greatest worth grows that a purse lets, from (0, 0) on."""
    check_worths(land, a, wish, worths)
    found = [(0, 0)]
    # of several sets of one price the worthiest comes first
    for spent, less in sorted([(spent, -worth) for spent, worth, places in told_sets(land, a, wish, worths, True)]):
        if -less > found[-1][1]:
            found.append((spent, -less))
    return tuple(found)
