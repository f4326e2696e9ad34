import random

from lampwalks.errors import BadCount, BadPlace, BadState, NotTree, TooMany
from lampwalks.lands import made_land
from lampwalks.nthat import nth_at, rank_at
from lampwalks.webmakers import alone, line_web, pair_web, star_web
from tests.helpers import (
    FOUR, LINE, MANY_WAYS, SMALL_WEBS, SPOT, THREE, TREE, TREE_ROADS, WEE, Case, least_costs, some_lands, some_state,
    tally)

FAR = 10 ** 30
ZERO = (0,) * 10
START = (1, (0, 0, 0))
SIX_ROADS = ((0, 1, 2), (0, 4, 100), (2, 4, 1), (3, 4, 1), (3, 5, 7))
SIX = made_land(6, SIX_ROADS, (alone(), pair_web(3), alone(), pair_web(3), alone(), line_web(3, 1)))
SEVEN = made_land(7, tuple((x, x + 1, 1) for x in range(6)), (alone(),) * 7)


def states_at(prices, r):
    """The states that have a price, ascending."""
    return sorted(state for state, spent in prices.items() if spent == r)


class NthAtTest(Case):
    def test_example(self):
        self.same(nth_at(WEE, (0, (0, 0)), 2, 0), (1, (0, 1)))

    def test_ordinary(self):
        self.same(nth_at(WEE, (1, (0, 0)), 1, 0), (0, (0, 0)))
        self.same(nth_at(WEE, (1, (0, 0)), 1, 1), (1, (0, 1)))
        self.same(nth_at(LINE, START, 1, 0), (0, (0, 0, 0)))
        self.same(nth_at(LINE, START, 1, 1), (1, (0, 1, 0)))
        self.same(nth_at(LINE, START, 1, 2), (2, (0, 0, 0)))
        star = made_land(1, (), (star_web(6, 9),))
        self.same([nth_at(star, (0, (2,)), 18, k) for k in range(4)], [(0, (q,)) for q in (1, 3, 4, 5)])

    def test_the_state_itself(self):
        self.same(nth_at(SPOT, (0, (0,)), 0, 0), (0, (0,)))
        self.same(nth_at(LINE, (2, (0, 1, 1)), 0, 0), (2, (0, 1, 1)))

    def test_by_search(self):
        chance = random.Random(191)
        for land in some_lands(chance, 15, most=3, lamps=SMALL_WEBS) + [SIX, LINE, WEE]:
            a = some_state(chance, land)
            prices = least_costs(land, a)
            for r, many in tally(prices.values()):
                wanted = states_at(prices, r)
                for k in {0, many - 1, many // 2}:
                    self.same(nth_at(land, a, r, k), wanted[k])
                self.refuses(BadCount, many, nth_at, land, a, r, many)

    def test_quick_with_six_places(self):
        land = made_land(6, SIX_ROADS, (MANY_WAYS, alone(), alone(), alone(), alone(), line_web(6, 97)))
        prices = least_costs(land, (3, (0,) * 6))
        for r in sorted(set(prices.values()))[::20]:
            wanted = states_at(prices, r)
            self.same(self.quick(1, nth_at, land, (3, (0,) * 6), r, len(wanted) - 1), wanted[-1])
            self.same(nth_at(land, (3, (0,) * 6), r, 0), wanted[0])


class RankAtTest(Case):
    def test_example(self):
        self.same(rank_at(WEE, (0, (0, 0)), (1, (0, 1))), 0)

    def test_ordinary(self):
        self.same(rank_at(WEE, (1, (0, 0)), (0, (0, 0))), 0)
        self.same(rank_at(WEE, (1, (0, 0)), (1, (0, 1))), 1)
        self.same([rank_at(LINE, START, b) for b in ((0, (0, 0, 0)), (1, (0, 1, 0)), (2, (0, 0, 0)))], [0, 1, 2])

    def test_a_state_and_itself(self):
        for land, state in ((SPOT, (0, (0,))), (LINE, (2, (0, 1, 1))), (SIX, (5, (0, 1, 0, 1, 0, 2)))):
            self.same(rank_at(land, state, state), 0)

    def test_by_search(self):
        chance = random.Random(192)
        for land in some_lands(chance, 12, most=3, lamps=SMALL_WEBS) + [SIX, LINE, WEE]:
            a = some_state(chance, land)
            prices = least_costs(land, a)
            for b in chance.sample(sorted(prices), min(len(prices), 60)):
                self.same(rank_at(land, a, b), states_at(prices, prices[b]).index(b))

    def test_quick_with_six_places(self):
        land = made_land(6, SIX_ROADS, (MANY_WAYS, alone(), alone(), alone(), alone(), line_web(6, 97)))
        prices = least_costs(land, (3, (0,) * 6))
        for b in ((5, (5, 0, 0, 0, 0, 5)), (0, (2, 0, 0, 0, 0, 3)), (4, (4, 0, 0, 0, 0, 0))):
            wanted = states_at(prices, prices[b]).index(b)
            self.same(self.quick(1, rank_at, land, (3, (0,) * 6), b), wanted)


class ErrorsTest(Case):
    def test_ring_comes_first(self):
        for a in (START, (3, (0, 0, 0)), (0, (0,)), (-1, ())):
            for r, k in ((0, 0), (-1, -1), (FAR, FAR)):
                self.refuses(NotTree, 0, nth_at, THREE, a, r, k)
            self.refuses(NotTree, 0, rank_at, THREE, a, START)
            self.refuses(NotTree, 0, rank_at, THREE, START, a)
        ringed = made_land(7, SEVEN.roads[:1] + ((0, 6, 1),) + SEVEN.roads[1:], SEVEN.lamps)
        self.refuses(NotTree, 0, nth_at, ringed, (0, (0,) * 7), 0, 0)
        self.refuses(NotTree, 0, rank_at, FOUR, (0, (0,) * 4), (0, (0,) * 4))

    def test_then_the_states(self):
        for land in (LINE, SEVEN):
            rest = (0,) * (land.many - 3)
            good = (1, (0, 0, 0) + rest)
            bad_states = ((BadPlace, land.many, (land.many, good[1])), (BadPlace, -1, (-1, ())),
                          (BadState, 2, (1, (0, 9))), (BadState, (1,), (1, (0, 6, 6) + rest)))
            for kind, what, bad in bad_states:
                for r, k in ((0, 0), (-1, -1), (FAR, FAR)):
                    self.refuses(kind, what, nth_at, land, bad, r, k)
                self.refuses(kind, what, rank_at, land, bad, good)
                self.refuses(kind, what, rank_at, land, good, bad)
                self.refuses(kind, what, rank_at, land, bad, (-9, ()))

    def test_then_too_many_places(self):
        for r, k in ((0, 0), (-1, -1), (FAR, FAR), (1, 99)):
            self.refuses(TooMany, 7, nth_at, SEVEN, (0, (0,) * 7), r, k)
            self.refuses(TooMany, 10, nth_at, TREE, (0, ZERO), r, k)
        self.refuses(TooMany, 7, rank_at, SEVEN, (0, (0,) * 7), (6, (0,) * 7))
        self.refuses(TooMany, 10, rank_at, TREE, (0, ZERO), (0, ZERO))
        self.same(nth_at(SIX, (0, (0,) * 6), 0, 0), (0, (0,) * 6))

    def test_then_prices_that_no_state_has(self):
        for k in (0, -1, FAR):
            for r in (-1, 4, FAR, -FAR):
                self.refuses(BadCount, r, nth_at, WEE, (0, (0, 0)), r, k)
            self.refuses(BadCount, 1, nth_at, SPOT, (0, (0,)), 1, k)
            self.refuses(BadCount, 8, nth_at, made_land(1, (), (star_web(6, 9),)), (0, (0,)), 8, k)

    def test_then_numbers_out_of_range(self):
        for k in (1, 2, -1, FAR, -FAR):
            self.refuses(BadCount, k, nth_at, WEE, (0, (0, 0)), 2, k)
            self.refuses(BadCount, k, nth_at, SPOT, (0, (0,)), 0, k)
        for k in (3, -1):
            self.refuses(BadCount, k, nth_at, LINE, START, 1, k)

    def test_the_land_stays_as_it_is(self):
        nth_at(SIX, (0, (0,) * 6), 0, 0)
        rank_at(SIX, (0, (0,) * 6), (5, (0, 1, 0, 1, 0, 2)))
        self.same(SIX.roads, SIX_ROADS)
        self.same(TREE.roads, TREE_ROADS)
