import random

from lampwalks.errors import BadPlace, BadState, NotRing
from lampwalks.lands import made_land
from lampwalks.prices import price
from lampwalks.ringprices import ring_best
from lampwalks.ringruns import ring_run
from lampwalks.webmakers import alone, pair_web
from tests.helpers import (
    FOUR, LINE, MANY_WAYS, RINGED, RINGED_ROADS, SMALL_WEBS, SPOT, THREE, TREE, Case, all_states, least_costs, led,
    some_end, some_lands, some_roads, some_state)

START = (0, (0, 0, 0, 0))


class RingRunTest(Case):
    def check(self, land, a, b, least):
        run = ring_run(land, a, b)
        self.assertIs(type(run), tuple)
        for deed in run:
            self.assertIs(type(deed), tuple)
        self.same(led(land, a, run), (b, least))

    def test_of_the_document(self):
        self.check(FOUR, START, (0, (0, 0, 1, 0)), 5)
        self.check(FOUR, START, (0, (0, 1, 1, 1)), 7)
        self.check(FOUR, START, START, 0)

    def test_a_state_and_itself(self):
        chance = random.Random(331)
        for land in [THREE, FOUR, RINGED] + some_lands(chance, 20, ring=True):
            state = some_state(chance, land)
            self.same(ring_run(land, state, state), ())

    def test_all_pairs_of_small_rings(self):
        for land in (THREE, FOUR):
            for a in all_states(land)[:16]:
                costs = least_costs(land, a)
                for b, least in costs.items():
                    self.check(land, a, b, least)

    def test_round_the_ring(self):
        # all four lamps: once round is 4, there and back is 6
        self.check(FOUR, START, (0, (1, 1, 1, 1)), 8)
        self.same(ring_best(FOUR, START, (0, (1, 1, 1, 1))), 1)
        # from 0 to 1, the long way round
        self.check(FOUR, START, (1, (0, 0, 1, 1)), 2 + 3)
        # from 0 to 3
        self.check(FOUR, START, (3, (0, 1, 1, 0)), 2 + 3)

    def test_walkers_in_one_bough(self):
        # the ring 0 - 1 - 2; 3 hangs at 0, 4 and 5 hang at 3
        land = made_land(6, ((0, 1, 1), (0, 2, 1), (0, 3, 2), (1, 2, 1), (3, 4, 3), (3, 5, 4)), (pair_web(1),) * 6)
        zero = (0,) * 6
        self.check(land, (4, zero), (5, zero), 7)
        # once round the ring from the bough
        self.check(land, (4, zero), (5, (0, 1, 1, 0, 0, 0)), 2 + 3 + 4 + 2 * 2 + 3)
        self.check(land, (4, zero), (4, (0, 1, 1, 0, 0, 1)), 3 + 2 * (3 + 4 + 2) + 3)
        self.check(land, (3, zero), (3, (0, 0, 0, 0, 1, 1)), 2 + 14)
        self.check(land, (4, zero), (3, (1, 1, 1, 1, 1, 1)), 6 + 3 + 2 * 4 + 2 * 2 + 3)

    def test_boughs_on_the_ring(self):
        # ring 0 - 1 - 2 - 3 - 0 with a place at each of them
        land = made_land(8, ((0, 1, 1), (0, 3, 1), (0, 4, 9), (1, 2, 1), (1, 5, 9), (2, 3, 1), (2, 6, 9), (3, 7, 9)),
                         (alone(),) * 4 + (pair_web(1),) * 4)
        zero = (0,) * 8
        self.check(land, (4, zero), (4, (0,) * 4 + (1,) * 4), 4 + 4 + 2 * 9 * 4)
        self.check(land, (4, zero), (6, (0,) * 4 + (0, 1, 0, 1)), 2 + 9 * 2 + 4 * 9 + 4)
        self.check(land, (4, zero), (5, (0,) * 4 + (0, 0, 1, 1)), 2 + 9 * 2 + 4 * 9 + 3)

    def test_by_search(self):
        chance = random.Random(332)
        choices = []
        for land in some_lands(chance, 100, ring=True, most=6, lamps=SMALL_WEBS[1:5]):
            for _ in range(3):
                a = some_state(chance, land)
                costs = least_costs(land, a)
                for b in [some_end(chance, land, a) for _ in range(10)] + [some_state(chance, land)]:
                    self.check(land, a, b, costs[b])
                    choices.append(ring_best(land, a, b))
        self.assertGreater(choices.count(1), 100)

    def test_even_lengths(self):
        # all roads alike, so that gaps and choices are often alike
        chance = random.Random(333)
        for _ in range(150):
            many = chance.randint(3, 7)
            roads = tuple((x, y, 1) for x, y, _ in some_roads(chance, many, True))
            land = made_land(many, roads, (pair_web(1),) * many)
            a = some_state(chance, land)
            costs = least_costs(land, a)
            for b in chance.sample(sorted(costs), 20):
                self.check(land, a, b, costs[b])

    def test_ten_places(self):
        chance = random.Random(334)
        lands = some_lands(chance, 60, ring=True, lamps=(MANY_WAYS, pair_web(100)))
        ring = tuple(sorted([(x, x + 1, x + 1) for x in range(9)] + [(0, 9, 100)]))
        lands.append(made_land(10, ring, (MANY_WAYS,) * 10))
        for land in lands + [RINGED]:
            for _ in range(10):
                a = some_state(chance, land)
                b = some_end(chance, land, a)
                self.check(land, a, b, price(land, a, b))
                self.quick(1, ring_run, land, a, b)


class ErrorsTest(Case):
    STATES = (START, (4, (0, 0, 0, 0)), (0, (0,)), (-1, ()))

    def test_tree_comes_first(self):
        for a in self.STATES:
            for b in self.STATES:
                for land in (LINE, SPOT, TREE):
                    self.refuses(NotRing, 0, ring_run, land, a, b)

    def test_a_ahead_of_b(self):
        for b in self.STATES:
            self.refuses(BadPlace, 5, ring_run, FOUR, (5, (0,)), b)
            self.refuses(BadState, 3, ring_run, FOUR, (1, (9,) * 3), b)
            self.refuses(BadState, (1,), ring_run, FOUR, (1, (0, 2, 2, 2)), b)
        self.refuses(BadPlace, -1, ring_run, FOUR, START, (-1, (0, 0)))
        self.refuses(BadState, 5, ring_run, FOUR, START, (1, (9,) * 5))
        self.refuses(BadState, (3,), ring_run, FOUR, START, (1, (0, 0, 0, -1)))

    def test_by_name(self):
        self.same(led(FOUR, START, ring_run(b=(0, (0, 0, 1, 0)), a=START, land=FOUR)), ((0, (0, 0, 1, 0)), 5))

    def test_the_land_stays_as_it_is(self):
        ring_run(RINGED, (0, (0,) * 8), (7, (1, 0, 1, 1, 5, 0, 1, 1)))
        self.same(RINGED.roads, RINGED_ROADS)
