"""The floor in words."""

from lampwalks.errors import BadWord
from lampwalks.floorasks import can_go_home, home_price, way_home
from lampwalks.landtext import number_of
from lampwalks.runtext import deed_of, run_text
from lampwalks.statetext import state_text

# seven digits
MOST_TOLD = 9999999


def answer(floor, row):
    """Does the deed that the row tells, or answers what it asks."""
    if row == "state":
        return state_text(floor.land, floor.state())
    if row == "purse":
        return str(floor.purse())
    if row == "home":
        return _yes_or_no(can_go_home(floor))
    _do(floor, row)
    return "ok"


def asked(floor, row):
    """Answers what the row asks of the way home."""
    if row == "price":
        return str(home_price(floor))
    if row == "way":
        return run_text(way_home(floor)).replace("\n", ";")
    raise BadWord(row)


def _yes_or_no(holds):
    """The word for what holds or does not hold."""
    if holds:
        return "yes"
    return "no"


def _do(floor, row):
    """Does the deed that the row tells."""
    deed = deed_of(row)
    earned = _earned(row)
    if deed is not None:
        _move(floor, deed)
    elif earned is not None:
        floor.earn(earned)
    elif row == "mark":
        floor.mark()
    elif row == "undo":
        floor.undo()
    elif row == "redo":
        floor.redo()
    else:
        raise BadWord(row)


def _move(floor, deed):
    """Does a going or a turn."""
    word, x = deed
    if word == "go":
        floor.go(x)
    else:
        floor.turn(x)


def _earned(row):
    """The number that a row "earn K" tells; None for other rows."""
    words = row.split(" ")
    if len(words) != 2 or words[0] != "earn":
        return None
    return number_of(words[1], MOST_TOLD)
