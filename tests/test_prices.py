import random

from lampwalks.errors import BadPlace, BadState
from lampwalks.lands import made_land
from lampwalks.prices import price
from lampwalks.webmakers import alone, line_web, pair_web
from tests.helpers import (
    BUSHY, FOUR, LINE, LONG, MANY_WAYS, RINGED, RINGED_ROADS, SMALL_WEBS, SPOT, THREE, TREE, TREE_ROADS, WEE, WIDE,
    Case, all_states, least_costs, some_end, some_lands, some_state)

FAR = 10 ** 30
START = (1, (0, 0, 0))
ZERO = (0,) * 10
RING_ZERO = (0,) * 8

# 0 - 1 - 2 - 3 is the ring, 4 hangs at 2, 5 at 4, and 6 at 0
HANGING = made_land(7, ((0, 1, 4), (0, 3, 2), (0, 6, 1), (1, 2, 3), (2, 3, 7), (2, 4, 2), (4, 5, 5)),
                    (pair_web(1), alone(), alone(), pair_web(2), alone(), pair_web(1), alone()))


class TreeTest(Case):
    def test_examples(self):
        self.same(price(LINE, START, (1, (1, 0, 1))), 6)
        self.same(price(LINE, START, (2, (1, 0, 1))), 5)

    def test_ordinary(self):
        # 3 - 4 - 6 - 7 - 8 once, 9 twice; the lamps of 8 and 9
        self.same(price(TREE, (3, ZERO), (8, (0, 0, 0, 0, 0, 0, 0, 0, 5, 1))), 7 + 100 + 3 + 2 + 2 * 4 + 5 + 100)
        # only the lamp of the own place
        self.same(price(TREE, (4, ZERO), (4, (0, 0, 0, 0, 3, 0, 0, 0, 0, 0))), 300)
        # only going
        self.same(price(TREE, (0, ZERO), (5, ZERO)), 2 + 7 + 1)

    def test_a_state_and_itself(self):
        for land, state in ((SPOT, (0, (0,))), (LINE, (2, (0, 1, 1))), (WIDE, (7, (5,) * 10)), (LONG, (0, ZERO))):
            self.same(price(land, state, state), 0)

    def test_one_place(self):
        land = made_land(1, (), (MANY_WAYS,))
        self.same(price(land, (0, (0,)), (0, (5,))), 5)
        self.same(price(land, (0, (4,)), (0, (2,))), 2)

    def test_walkers_at_one_place_and_everything_changed(self):
        for place in range(10):
            self.same(price(LONG, (place, ZERO), (place, (5,) * 10)), 9 * 200 + 10 * 500)
        self.same(price(WIDE, (4, (4,) * 10), (4, ZERO)), 2 * 45 + 10 * 4)

    def test_by_search(self):
        chance = random.Random(81)
        for land in some_lands(chance, 25, most=4, lamps=SMALL_WEBS) + some_lands(chance, 6, most=3):
            start = some_state(chance, land)
            for end, least in least_costs(land, start).items():
                self.same(price(land, start, end), least)

    def test_quick(self):
        for land in (WIDE, LONG, BUSHY):
            self.quick(1, price, land, (4, ZERO), (6, (5,) * 10))


class RingTest(Case):
    def test_examples(self):
        start = (0, (0, 0, 0, 0))
        self.same(price(FOUR, start, (0, (0, 0, 1, 0))), 1 + 4)
        self.same(price(FOUR, start, (0, (0, 1, 1, 1))), 3 + 4)
        self.same(price(FOUR, start, start), 0)

    def test_the_shorter_way_round(self):
        self.same(price(THREE, (0, (0, 0, 0)), (2, (0, 0, 0))), 2)
        self.same(price(THREE, (2, (0, 0, 0)), (0, (0, 0, 0))), 2)
        self.same(price(FOUR, (3, (0, 0, 0, 0)), (0, (0, 0, 0, 0))), 1)

    def test_what_hangs_on_the_ring(self):
        zero = (0,) * 7
        # both walkers hang at one place: the ring is not needed
        self.same(price(HANGING, (5, zero), (2, zero)), 5 + 2)
        self.same(price(HANGING, (5, zero), (5, zero)), 0)
        self.same(price(HANGING, (4, zero), (4, (0, 0, 0, 0, 0, 1, 0))), 2 * 5 + 1)
        # 5 - 4 - 2, then over 1 or over 3 to 0, then 6
        self.same(price(HANGING, (5, zero), (6, zero)), 5 + 2 + 7 + 1)
        # from 6 to 5 over 3, whose lamp is turned: 2 + 7; over 1 it would be 7 + 2 * 2
        self.same(price(HANGING, (6, zero), (5, (0, 0, 0, 1, 0, 0, 0))), 1 + 9 + 2 + 5 + 2)
        # there and back: all roads but the longest one of the ring twice, or once round
        self.same(price(HANGING, (6, zero), (6, (1, 0, 0, 1, 0, 1, 0))), 2 * (1 + 2 + 5) + 16 + 1 + 2 + 1)

    def test_by_search(self):
        chance = random.Random(82)
        for land in some_lands(chance, 30, ring=True, most=4, lamps=SMALL_WEBS):
            start = some_state(chance, land)
            for end, least in least_costs(land, start).items():
                self.same(price(land, start, end), least)

    def test_by_search_with_long_rings(self):
        chance = random.Random(83)
        lamps = (pair_web(1), pair_web(1), alone(), line_web(2, 3))
        for land in some_lands(chance, 12, ring=True, most=7, lamps=lamps):
            start = some_state(chance, land)
            costs = least_costs(land, start)
            for end in chance.sample(sorted(costs), min(150, len(costs))):
                self.same(price(land, start, end), costs[end])

    def test_ten_places(self):
        round_roads = tuple(sorted([(0, 9, 100)] + [(x, x + 1, 100) for x in range(9)]))
        land = made_land(10, round_roads, (MANY_WAYS,) * 10)
        self.same(self.quick(1, price, land, (0, ZERO), (0, (5,) * 10)), 1000 + 50)
        self.same(self.quick(1, price, land, (0, ZERO), (1, (5,) * 10)), 900 + 50)
        self.same(price(land, (0, ZERO), (2, (5,) * 10)), 800 + 200 + 50)
        self.same(price(land, (3, ZERO), (7, ZERO)), 400)


class WhatHoldsTest(Case):
    """[8]: what is said of prices on every land, and (c): there and back cost the same."""

    def test_drawn_states(self):
        chance = random.Random(84)
        for land in some_lands(chance, 40) + some_lands(chance, 40, ring=True):
            a = some_state(chance, land)
            b, x = some_end(chance, land, a), some_end(chance, land, a)
            self.assertEqual(price(land, a, b) == 0, a == b)
            self.same(price(land, a, b), price(land, b, a))
            self.assertLessEqual(price(land, a, b), price(land, a, x) + price(land, x, b))
            self.same(price(land, a, a), 0)

    def test_only_a_state_itself_has_the_price_0(self):
        for land in (SPOT, WEE, LINE, THREE, FOUR):
            for a in all_states(land):
                self.assertEqual([b for b in all_states(land) if price(land, a, b) == 0], [a])


class ErrorsTest(Case):
    def test_states_one_after_the_other(self):
        good = START
        for land in (LINE, THREE):
            for bad in (good, (9, ()), (0, (7, 7))):
                self.refuses(BadPlace, 3, price, land, (3, (0, 0, 0)), bad)
                self.refuses(BadPlace, -1, price, land, (-1, (9,)), bad)
                self.refuses(BadState, 2, price, land, (1, (0, 9)), bad)
                self.refuses(BadState, (1,), price, land, (1, (0, 2, 2)), bad)
            self.refuses(BadPlace, FAR, price, land, good, (FAR, (0, 0)))
            self.refuses(BadPlace, -FAR, price, land, good, (-FAR, (0, 0, 0)))
            self.refuses(BadState, 4, price, land, good, (1, (9, 9, 9, 9)))
            self.refuses(BadState, (0,), price, land, good, (1, (-1, 2, 0)))
            self.refuses(BadState, (2,), price, land, good, (1, (0, 0, 2)))

    def test_the_land_stays_as_it_is(self):
        price(TREE, (0, ZERO), (9, ZERO))
        price(RINGED, (0, RING_ZERO), (7, RING_ZERO))
        self.same(TREE.roads, TREE_ROADS)
        self.same(RINGED.roads, RINGED_ROADS)
