import random

from lampwalks.errors import NotTree, TooMany
from lampwalks.lands import made_land
from lampwalks.pairspheres import pair_sphere, width
from lampwalks.webmakers import alone, line_web, pair_web, star_web
from tests.helpers import (
    FOUR, LINE, MANY_WAYS, RINGED, SPOT, THREE, TREE, UNLIKE, WEE, Case, all_apart, all_states, least_costs,
    small_trees, some_lands, some_roads, tally)

SIX_ROADS = ((0, 1, 2), (0, 4, 100), (2, 4, 1), (3, 4, 1), (3, 5, 7))


def all_prices(land):
    """The prices of all ordered pairs of states, by a search from each state."""
    return [spent for a in all_states(land) for spent in least_costs(land, a).values()]


class PairSphereTest(Case):
    def test_examples(self):
        self.same(pair_sphere(WEE), ((0, 4), (1, 6), (2, 4), (3, 2)))
        self.same(width(WEE), (3, 2))

    def test_one_place(self):
        self.same(pair_sphere(SPOT), ((0, 1),))
        self.same(width(SPOT), (0, 1))
        self.same(pair_sphere(made_land(1, (), (star_web(6, 9),))), ((0, 6), (9, 10), (18, 20)))
        self.same(width(made_land(1, (), (star_web(6, 9),))), (18, 20))

    def test_lamps_alone(self):
        land = made_land(6, SIX_ROADS, (alone(),) * 6)
        self.same(pair_sphere(land), tally(all_apart(6, SIX_ROADS).values()))
        self.same(width(land), (110, 2))

    def test_by_search(self):
        chance = random.Random(201)
        count = 0
        for land in small_trees(chance, 60, 130) + some_lands(chance, 4, most=2) + [LINE, WEE]:
            if land.many <= 6:
                prices = all_prices(land)
                self.same(pair_sphere(land), tally(prices))
                self.same(width(land), (max(prices), prices.count(max(prices))))
                count += 1
        self.assertGreater(count, 30)

    def test_six_places_by_search(self):
        # both walkers in one branch, with and without something to do outside of it
        chance = random.Random(202)
        for lamps in ((pair_web(1), pair_web(2), alone(), alone(), pair_web(4), alone()),
                      (alone(), alone(), pair_web(3), line_web(3, 1), alone(), pair_web(1)),
                      (UNLIKE, alone(), alone(), alone(), alone(), pair_web(5))):
            for _ in range(4):
                land = made_land(6, some_roads(chance, 6, False), lamps)
                prices = all_prices(land)
                self.same(pair_sphere(land), tally(prices))
                self.same(width(land), (max(prices), prices.count(max(prices))))

    def test_quick_with_six_places(self):
        chance = random.Random(203)
        for _ in range(6):
            lamps = [alone(), alone(), alone(), alone(), MANY_WAYS, line_web(6, 97)]
            chance.shuffle(lamps)
            land = made_land(6, some_roads(chance, 6, False), tuple(lamps))
            pairs = self.quick(1, pair_sphere, land)
            self.same(sum(many for _, many in pairs), 216 ** 2)
            self.same(pairs[0], (0, 216))
            self.same(self.quick(1, width, land), pairs[-1])

    def test_a_great_width(self):
        # the walkers at one place, and all lamps at their ends: at each place, and 2 ** 6 ways to choose the ends
        land = made_land(6, tuple((x, x + 1, 100) for x in range(5)), (line_web(6, 100),) * 6)
        self.same(self.quick(2, width, land), (5 * 200 + 6 * 500, 6 * 2 ** 6))


class ErrorsTest(Case):
    def test_ring_comes_first(self):
        for call in (pair_sphere, width):
            for land in (THREE, FOUR, RINGED):
                self.refuses(NotTree, 0, call, land)

    def test_then_too_many_places(self):
        for call in (pair_sphere, width):
            self.refuses(TooMany, 10, call, TREE)
            self.refuses(TooMany, 7, call, made_land(7, tuple((0, x, 1) for x in range(1, 7)), (alone(),) * 7))

    def test_the_land_stays_as_it_is(self):
        land = made_land(6, SIX_ROADS, (alone(),) * 6)
        pair_sphere(land)
        width(land)
        self.same(land.roads, SIX_ROADS)
