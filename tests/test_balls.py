import random

from lampwalks.balls import ball, farthest
from lampwalks.errors import BadPlace, BadState, NotTree
from lampwalks.lands import made_land
from lampwalks.webmakers import line_web, pair_web, star_web
from tests.helpers import (
    FOUR, LINE, LONG, SPOT, THREE, TREE, TREE_ROADS, WEE, Case, least_costs, small_trees, some_lands, some_state)

FAR = 10 ** 30
ZERO = (0,) * 10
START = (1, (0, 0, 0))


class BallTest(Case):
    def test_examples(self):
        self.same(ball(WEE, (0, (0, 0)), 1), 2)
        self.same(ball(WEE, (0, (0, 0)), -1), 0)

    def test_ordinary(self):
        self.same([ball(WEE, (0, (0, 0)), r) for r in range(-2, 6)], [0, 0, 1, 2, 3, 4, 4, 4])
        self.same([ball(WEE, (1, (0, 0)), r) for r in range(4)], [1, 3, 4, 4])

    def test_far_below_and_far_above(self):
        for land, many in ((SPOT, 1), (WEE, 4), (LINE, 24)):
            a = (0, (0,) * land.many)
            self.same(ball(land, a, FAR), many)
            self.same(ball(land, a, 10000), many)
            self.same(ball(land, a, 0), 1)
            self.same(ball(land, a, -FAR), 0)

    def test_by_search(self):
        chance = random.Random(181)
        for land in small_trees(chance, 40, 1000) + some_lands(chance, 4, most=3):
            a = some_state(chance, land)
            prices = sorted(least_costs(land, a).values())
            for r in (-1, 0, 1, prices[-1] - 1, prices[-1], prices[-1] + 1, chance.choice(prices)):
                self.same(ball(land, a, r), len([spent for spent in prices if spent <= r]))

    def test_quick_with_ten_places(self):
        land = made_land(10, LONG.roads, (line_web(3, 100), line_web(3, 61)) * 5)
        self.same(self.quick(1.5, ball, land, (4, ZERO), FAR), 10 * 3 ** 10)
        # a road costs 100, a turn 61 or 100
        self.same(ball(land, (4, ZERO), 60), 1)
        self.same(ball(land, (4, ZERO), 99), 1)
        self.same(ball(land, (4, ZERO), 100), 4)


class FarthestTest(Case):
    def test_example(self):
        self.same(farthest(WEE, (0, (0, 0))), (3, 1))

    def test_ordinary(self):
        self.same(farthest(WEE, (1, (0, 0))), (2, 1))
        self.same(farthest(LINE, START), (7, 1))
        self.same(farthest(made_land(1, (), (star_web(6, 9),)), (0, (0,))), (9, 5))
        self.same(farthest(made_land(1, (), (star_web(6, 9),)), (0, (3,))), (18, 4))

    def test_one_place_alone(self):
        self.same(farthest(SPOT, (0, (0,))), (0, 1))

    def test_by_search(self):
        chance = random.Random(182)
        for land in small_trees(chance, 60, 1000) + some_lands(chance, 5, most=3):
            a = some_state(chance, land)
            prices = list(least_costs(land, a).values())
            self.same(farthest(land, a), (max(prices), prices.count(max(prices))))

    def test_quick_with_ten_places(self):
        # everything changed, and each road twice: the walker ends where it began
        land = made_land(10, LONG.roads, (line_web(3, 100),) * 10)
        self.same(self.quick(1.5, farthest, land, (4, ZERO)), (9 * 200 + 10 * 200, 1))
        land = made_land(10, LONG.roads, (pair_web(1),) * 10)
        self.same(self.quick(1, farthest, land, (0, ZERO)), (9 * 200 + 10, 1))


class ErrorsTest(Case):
    def test_ring_comes_first(self):
        for a in (START, (3, (0, 0, 0)), (0, (0,)), (-1, ())):
            self.refuses(NotTree, 0, farthest, THREE, a)
            for r in (-1, 0, FAR):
                self.refuses(NotTree, 0, ball, THREE, a, r)
        self.refuses(NotTree, 0, farthest, FOUR, (0, (0,) * 4))

    def test_the_state(self):
        for kind, what, a in ((BadPlace, 3, (3, (0, 0, 0))), (BadPlace, -1, (-1, ())), (BadState, 2, (1, (0, 9))),
                              (BadState, (1,), (1, (0, 2, 2))), (BadState, (0,), (1, (-FAR, 0, 0)))):
            self.refuses(kind, what, farthest, LINE, a)
            for r in (-1, 0, FAR):
                self.refuses(kind, what, ball, LINE, a, r)

    def test_the_land_stays_as_it_is(self):
        land = made_land(10, TREE_ROADS, (pair_web(1),) * 10)
        ball(land, (0, ZERO), 10)
        farthest(land, (0, ZERO))
        self.same(land.roads, TREE_ROADS)
        self.same(TREE.roads, TREE_ROADS)
