"""The places from which a walker has the least to fear, and the least to pay in the mean."""

from lampwalks.landroads import far_sides, hull_length
from lampwalks.lands import check_tree
from lampwalks.means import price_sum
from lampwalks.roads import lengths_from
from lampwalks.shares import share
from lampwalks.states import check_row, states_many


def radius(land, row):
    """The least greatest price to a state, by the place of the walker who starts with this row, and those places."""
    check_tree(land)
    check_row(land, row)
    lamps = sum([max(lengths_from(lamp.roads, p).values()) for lamp, p in zip(land.lamps, row)])
    walks = _longest_walks(land)
    return (lamps + min(walks), _least_places(walks))


def centre_mean(land, row):
    """The least mean price to a state, by the place of the walker who starts with this row, and those places."""
    check_tree(land)
    check_row(land, row)
    sums = [price_sum(land, (x, row)) for x in range(land.many)]
    return (share(min(sums), states_many(land)), _least_places(sums))


def _longest_walks(land):
    """For each place the greatest length that a walker from there may have to go: all lamps change that can."""
    sides = far_sides(land)
    places = tuple([x for x in range(land.many) if land.lamps[x].many > 1])
    walks = []
    for x in range(land.many):
        # all roads of the hull are gone twice but those between the two places of the walker
        lengths = lengths_from(land.roads, x)
        walks.append(max([2 * hull_length(land, sides, (x, y) + places) - lengths[y] for y in range(land.many)]))
    return walks


def _least_places(numbers):
    """The indexes of the least number."""
    least = min(numbers)
    return tuple([x for x, number in enumerate(numbers) if number == least])
