import fractions
import random

from lampwalks.centres import centre_mean, radius
from lampwalks.errors import BadState, NotTree
from lampwalks.lands import made_land
from lampwalks.webmakers import alone, line_web, pair_web
from tests.helpers import (
    BUSHY, FOUR, LINE, LONG, SPOT, THREE, TREE, TREE_ROADS, WEE, WIDE, Case, least_costs, small_trees, some_lands,
    some_state)

FAR = 10 ** 30
ZERO = (0,) * 10


def least_of(numbers):
    """The least number, and the tuple of its indexes."""
    return min(numbers), tuple(x for x, number in enumerate(numbers) if number == min(numbers))


def as_pair(number):
    number = fractions.Fraction(number)
    return number.numerator, number.denominator


class ExamplesTest(Case):
    def test_of_the_document(self):
        self.same(radius(WEE, (0, 0)), (2, (1,)))
        self.same(centre_mean(WEE, (0, 0)), ((1, 1), (1,)))

    def test_one_place(self):
        self.same(radius(SPOT, (0,)), (0, (0,)))
        self.same(centre_mean(SPOT, (0,)), ((0, 1), (0,)))
        land = made_land(1, (), (line_web(6, 7),))
        self.same([radius(land, (q,)) for q in range(6)], [(7 * d, (0,)) for d in (5, 4, 3, 3, 4, 5)])
        # from position 0 the lengths are 0, 7, .., 35
        self.same(centre_mean(land, (0,)), ((35, 2), (0,)))
        self.same(centre_mean(land, (2,)), ((21, 2), (0,)))

    def test_lamps_alone(self):
        land = made_land(4, ((0, 1, 1), (1, 2, 5), (2, 3, 1)), (alone(),) * 4)
        self.same(radius(land, (0,) * 4), (6, (1, 2)))
        # from 1: 1 + 0 + 5 + 6
        self.same(centre_mean(land, (0,) * 4), ((3, 1), (1, 2)))

    def test_several_places(self):
        # all lamps can be changed: from each place all roads are gone twice but those to the end, which may be none
        self.same(radius(LINE, (0, 0, 0)), (7, (0, 1, 2)))
        self.same(radius(LINE, (0, 1, 0)), (7, (0, 1, 2)))
        # only the lamp of 1 can be changed
        land = made_land(3, LINE.roads, (alone(), pair_web(4), alone()))
        self.same(radius(land, (0, 1, 0)), (4 + 1, (1,)))

    def test_by_search(self):
        chance = random.Random(211)
        for land in small_trees(chance, 60, 400) + some_lands(chance, 5, most=3):
            row = some_state(chance, land)[1]
            prices = [list(least_costs(land, (x, row)).values()) for x in range(land.many)]
            self.same(radius(land, row), least_of([max(costs) for costs in prices]))
            least, places = least_of([fractions.Fraction(sum(costs), len(costs)) for costs in prices])
            self.same(centre_mean(land, row), (as_pair(least), places))

    def test_ten_places_of_lamps_alone_but_one(self):
        # in the line of 0 to 9 only the lamp of 8 can be changed
        land = made_land(10, tuple((x, x + 1, 1) for x in range(9)), (alone(),) * 8 + (pair_web(2), alone()))
        prices = [list(least_costs(land, (x, ZERO)).values()) for x in range(10)]
        self.same(radius(land, ZERO), least_of([max(costs) for costs in prices]))
        least, places = least_of([fractions.Fraction(sum(costs), 20) for costs in prices])
        self.same(centre_mean(land, ZERO), (as_pair(least), places))

    def test_quick_with_ten_places(self):
        for land in (WIDE, LONG, BUSHY, TREE):
            for row in (ZERO, tuple(lamp.many - 1 for lamp in land.lamps)):
                self.quick(2, radius, land, row)
                self.quick(2, centre_mean, land, row)
        # nine roads of 100 twice, ten lamps at five times 100
        self.same(radius(LONG, ZERO), (1800 + 5000, tuple(range(10))))


class ErrorsTest(Case):
    def test_ring_comes_first(self):
        for row in ((0, 0, 0), (), (0,), (-1, 0, 0), (FAR, 0, 0)):
            self.refuses(NotTree, 0, radius, THREE, row)
            self.refuses(NotTree, 0, centre_mean, THREE, row)
            self.refuses(NotTree, 0, radius, FOUR, row)

    def test_the_row(self):
        for call in (radius, centre_mean):
            for many in (0, 1, 2, 4, 10):
                self.refuses(BadState, many, call, LINE, (9,) * many)
            for bad in (-1, 2, FAR, -FAR):
                self.refuses(BadState, (0,), call, LINE, (bad, bad, 0))
                self.refuses(BadState, (1,), call, LINE, (1, bad, bad))
                self.refuses(BadState, (2,), call, LINE, (0, 1, bad))
            self.refuses(BadState, (0,), call, SPOT, (1,))
            self.refuses(BadState, 2, call, SPOT, (0, 0))

    def test_by_name(self):
        self.same(radius(land=WEE, row=(0, 0)), (2, (1,)))
        self.same(centre_mean(row=(0, 0), land=WEE), ((1, 1), (1,)))

    def test_the_land_stays_as_it_is(self):
        radius(TREE, ZERO)
        centre_mean(TREE, ZERO)
        self.same(TREE.roads, TREE_ROADS)
