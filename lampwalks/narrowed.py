"""The nearest of some states."""

from lampwalks.prices import price
from lampwalks.roads import lengths_from
from lampwalks.spheres import check_narrowed, let_ends, let_rows


def goal(land, a, ends, rows):
    """The least price from a to a state that ends and rows let, how many of them have it, and the first of these."""
    check_narrowed(land, a, ends, rows)
    # no lamp is changed that may stay, so all choices among the nearest positions change the same lamps
    nearest = [_nearest(lamp, p, let) for lamp, p, let in zip(land.lamps, a[1], let_rows(land, rows))]
    row = tuple([positions[0] for positions in nearest])
    places = let_ends(land, ends)
    prices = [price(land, a, (x, row)) for x in places]
    least = min(prices)
    many = prices.count(least)
    for positions in nearest:
        many = many * len(positions)
    return (least, many, (places[prices.index(least)], row))


def _nearest(lamp, p, positions):
    """Those of the positions that are the nearest ones to p."""
    lengths = lengths_from(lamp.roads, p)
    least = min([lengths[q] for q in positions])
    return [q for q in positions if lengths[q] == least]
