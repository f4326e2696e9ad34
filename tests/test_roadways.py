import random

from lampwalks.errors import BadPlace, BadState, NotTree
from lampwalks.roadways import road_part, two_ways
from tests.helpers import (
    FOUR, LINE, SMALL_WEBS, SPOT, THREE, TREE, TREE_ROADS, Case, all_apart, all_ways, least_costs, some_end,
    some_lands, some_state)

ZERO = (0,) * 10
START = (1, (0, 0, 0))


class RoadPartTest(Case):
    def test_examples(self):
        self.same(road_part(LINE, START, (1, (1, 0, 1))), 4)
        self.same(road_part(LINE, START, (2, (1, 0, 1))), 3)

    def test_ordinary(self):
        # 0 - 3 - 4 - 6 once, 2 and 5 twice
        self.same(road_part(TREE, (0, ZERO), (6, (0, 0, 1, 0, 0, 0, 0, 0, 0, 0))), 2 + 7 + 100 + 2)
        self.same(road_part(TREE, (6, ZERO), (6, (0, 0, 0, 0, 0, 0, 1, 0, 3, 0))), 2 * (3 + 2))

    def test_nothing_to_go(self):
        self.same(road_part(SPOT, (0, (0,)), (0, (0,))), 0)
        self.same(road_part(LINE, START, START), 0)
        self.same(road_part(LINE, START, (1, (0, 1, 0))), 0)

    def test_by_search(self):
        # what is left of the least cost without the lamps
        chance = random.Random(91)
        for land in some_lands(chance, 15, most=4, lamps=SMALL_WEBS):
            a = some_state(chance, land)
            tables = [all_apart(lamp.many, lamp.roads) for lamp in land.lamps]
            for b, least in least_costs(land, a).items():
                lamps = sum(table[p, q] for table, p, q in zip(tables, a[1], b[1]))
                self.same(road_part(land, a, b), least - lamps)


class TwoWaysTest(Case):
    def test_examples(self):
        self.same(two_ways(LINE, START, (1, (1, 0, 1))), (0, 1))
        self.same(two_ways(LINE, START, (2, (1, 0, 1))), (0,))

    def test_ordinary(self):
        self.same(two_ways(TREE, (0, ZERO), (6, (0, 0, 1, 0, 0, 0, 0, 0, 3, 0))), (2, 6, 8))
        self.same(two_ways(TREE, (6, ZERO), (6, (0, 1, 0, 0, 0, 0, 1, 0, 0, 0))), (1, 3, 5))

    def test_nothing_to_go_twice(self):
        self.same(two_ways(SPOT, (0, (0,)), (0, (0,))), ())
        self.same(two_ways(LINE, START, START), ())
        self.same(two_ways(LINE, (0, (0, 0, 0)), (2, (1, 1, 1))), ())
        self.same(two_ways(LINE, START, (1, (0, 1, 0))), ())

    def test_by_ways(self):
        chance = random.Random(92)
        for land in some_lands(chance, 40):
            a = some_state(chance, land)
            b = some_end(chance, land, a)
            once = self.roads_between(land, a[0], b[0])
            twice = set()
            for x in range(land.many):
                if a[1][x] != b[1][x]:
                    twice |= self.roads_between(land, a[0], x)
            self.same(two_ways(land, a, b), tuple(sorted(twice - once)))

    def roads_between(self, land, x, y):
        ((passed, _),) = all_ways(land.many, land.roads, x, y)
        pairs = {tuple(sorted(pair)) for pair in zip(passed, passed[1:])}
        return {road for road, told in enumerate(land.roads) if told[:2] in pairs}


class ErrorsTest(Case):
    def test_ring_comes_first(self):
        for call in (road_part, two_ways):
            for a, b in ((START, START), ((3, (0, 0, 0)), START), (START, (0, (0,))), ((-1, ()), (-1, ()))):
                self.refuses(NotTree, 0, call, THREE, a, b)
            self.refuses(NotTree, 0, call, FOUR, (0, (0,) * 4), (0, (0,) * 4))

    def test_states_one_after_the_other(self):
        for call in (road_part, two_ways):
            for bad in (START, (9, ()), (0, (7, 7))):
                self.refuses(BadPlace, 3, call, LINE, (3, (0, 0, 0)), bad)
                self.refuses(BadState, 2, call, LINE, (1, (0, 9)), bad)
                self.refuses(BadState, (1,), call, LINE, (1, (0, 2, 2)), bad)
            self.refuses(BadPlace, -1, call, LINE, START, (-1, (0, 0)))
            self.refuses(BadState, 4, call, LINE, START, (1, (9, 9, 9, 9)))
            self.refuses(BadState, (2,), call, LINE, START, (1, (0, 0, 2)))

    def test_the_land_stays_as_it_is(self):
        road_part(TREE, (0, ZERO), (9, ZERO))
        two_ways(TREE, (0, ZERO), (9, ZERO))
        self.same(TREE.roads, TREE_ROADS)
