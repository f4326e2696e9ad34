"""What a deed makes of a state."""

from lampwalks.deeds import check_deed


def after(state, deed):
    """The state after a deed that is possible."""
    place, row = state
    word, x = deed
    if word == "go":
        return (x, row)
    return (place, row[:place] + (x,) + row[place + 1:])


def done(land, state, deed):
    """The state after the deed."""
    check_deed(land, state, deed)
    return after(state, deed)
