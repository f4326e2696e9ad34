"""Which of the two choices on a ring is the better one."""

from lampwalks.ringgaps import ring_choices


def ring_best(land, a, b):
    """0 if the first choice costs at most as much as the second one, otherwise 1."""
    first, second = ring_choices(land, a, b)
    if first <= second:
        return 0
    return 1
