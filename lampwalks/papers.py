"""Papers: they show that no run from one state to another one costs less."""

from lampwalks.crossings import changed
from lampwalks.landroads import parted
from lampwalks.lands import check_tree, is_tree
from lampwalks.roads import is_number
from lampwalks.states import is_state
from lampwalks.webways import web_apart

ONCE = (1, -1)


def paper(land, a, b):
    """The paper for the price from a to b."""
    check_tree(land)
    places = changed(land, a, b)
    roads = [_road_entry(parted(land, road, a[0]), b[0], places) for road in range(len(land.roads))]
    return (tuple(roads), _lamp_lengths(land, a, b))


def _road_entry(far, end, places):
    """What the paper says of a road, where a walker sees far beyond it, comes to end and changes these places."""
    if end in far:
        return ONCE
    wanted = [x for x in places if x in far]
    if len(wanted) == 0:
        return 0
    return (2, wanted[0])


def _lamp_lengths(land, a, b):
    """For each lamp the least length from its position in a to that in b."""
    return tuple([web_apart(lamp, p, q) for lamp, p, q in zip(land.lamps, a[1], b[1])])


def paper_right(land, a, b, paper, price):
    """Whether the paper shows that no run from a to b costs less than price. All but land may be any values."""
    if not is_tree(land) or not is_state(land, a) or not is_state(land, b):
        return False
    if not isinstance(paper, tuple) or len(paper) != 2:
        return False
    roads, lamps = paper
    if not _roads_right(land, a, b, roads) or not _lamps_right(_lamp_lengths(land, a, b), lamps):
        return False
    return is_number(price) and price == _said(land, roads) + sum(lamps)


def _roads_right(land, a, b, roads):
    """Whether roads, which may be any value, has a right entry for each road."""
    if not isinstance(roads, tuple) or len(roads) != len(land.roads):
        return False
    return all([_road_right(land, a, b, road, entry) for road, entry in enumerate(roads)])


def _road_right(land, a, b, road, entry):
    """Whether entry, which may be any value, is one that the road may have."""
    if is_number(entry):
        return entry == 0
    if not isinstance(entry, tuple) or len(entry) != 2 or not all([is_number(part) for part in entry]):
        return False
    if entry == ONCE:
        return b[0] in parted(land, road, a[0])
    many, v = entry
    if many != 2 or v not in changed(land, a, b):
        return False
    far = parted(land, road, v)
    return a[0] in far and b[0] in far


def _lamps_right(most, lamps):
    """Whether lamps, which may be any value, has a number for each lamp, from 0 to the most that it can be."""
    if not isinstance(lamps, tuple) or len(lamps) != len(most):
        return False
    return all([is_number(length) and 0 <= length <= bound for length, bound in zip(lamps, most)])


def _said(land, roads):
    """The sum of the lengths of the roads, each as many times as its right entry says."""
    return sum([road[2] * entry[0] for road, entry in zip(land.roads, roads) if entry != 0])
