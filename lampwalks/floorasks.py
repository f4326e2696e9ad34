"""What can be asked of a floor: the way home, and what the purse lets."""

from lampwalks.balls import ball
from lampwalks.errors import Dear
from lampwalks.lands import is_tree
from lampwalks.leastruns import least_run
from lampwalks.prices import price
from lampwalks.purses import best
from lampwalks.ringruns import ring_run


def home_price(floor):
    """The price from the state to the mark."""
    return price(floor.land, floor.state(), floor.marked())


def can_go_home(floor):
    """Whether the purse is not below home_price."""
    return floor.purse() >= home_price(floor)


def way_home(floor):
    """A run of the least cost from the state to the mark."""
    if not can_go_home(floor):
        raise Dear(home_price(floor))
    if is_tree(floor.land):
        return least_run(floor.land, floor.state(), floor.marked())
    return ring_run(floor.land, floor.state(), floor.marked())


def in_reach(floor):
    """The number of states whose price from the state is at most the purse."""
    return ball(floor.land, floor.state(), floor.purse())


def best_for(floor, wish, worths):
    """The triple (worth, price, set) of the greatest worth that the purse lets, from the state."""
    return best(floor.land, floor.state(), wish, worths, floor.purse())
