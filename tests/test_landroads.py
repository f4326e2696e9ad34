import random

from lampwalks.errors import BadPlace, BadRoad, NotTree
from lampwalks.landroads import beside, beyond, hull
from tests.helpers import LINE, RINGED, RINGED_ROADS, SPOT, THREE, TREE, TREE_ROADS, WEE, Case, all_ways, some_lands

FAR = 10 ** 30


def roads_between(land, x, y):
    """The indexes of the roads on the only way from x to y."""
    ((passed, _),) = all_ways(land.many, land.roads, x, y)
    pairs = [tuple(sorted(pair)) for pair in zip(passed, passed[1:])]
    return sorted(i for i, road in enumerate(land.roads) if road[:2] in pairs)


class BesideTest(Case):
    def test_trees(self):
        self.same(beside(SPOT, 0), ())
        self.same(beside(WEE, 0), ((1, 1),))
        self.same(beside(WEE, 1), ((0, 1),))
        self.same(beside(LINE, 1), ((0, 1), (2, 1)))
        self.same(beside(TREE, 3), ((0, 2), (1, 5), (2, 1), (4, 7)))
        self.same(beside(TREE, 4), ((3, 7), (5, 1), (6, 100)))
        self.same(beside(TREE, 6), ((4, 100), (7, 3), (9, 4)))
        self.same(beside(TREE, 8), ((7, 2),))

    def test_lands_with_a_ring(self):
        self.same(beside(THREE, 1), ((0, 1), (2, 1)))
        self.same(beside(THREE, 2), ((0, 5), (1, 1)))
        self.same(beside(RINGED, 6), ((1, 5), (2, 1), (3, 4)))
        self.same(beside(RINGED, 7), ((5, 9),))

    def test_bad_place(self):
        for land, bad in ((SPOT, 1), (SPOT, -1), (TREE, 10), (TREE, -1), (RINGED, 8), (RINGED, FAR), (TREE, -FAR)):
            self.refuses(BadPlace, bad, beside, land, bad)


class HullTest(Case):
    def test_ordinary(self):
        self.same(hull(TREE, (0, 8)), (0, 3, 5, 6, 8))
        self.same(hull(TREE, (8, 0)), (0, 3, 5, 6, 8))
        self.same(hull(TREE, (1, 2, 5)), (1, 2, 3, 4))
        self.same(hull(TREE, (5, 1, 2, 1)), (1, 2, 3, 4))
        self.same(hull(TREE, (9, 7)), (6, 7))
        self.same(hull(TREE, (6, 4)), (5,))
        self.same(hull(TREE, tuple(range(10))), tuple(range(9)))
        self.same(hull(LINE, (0, 2)), (0, 1))

    def test_no_places_and_one_place(self):
        self.same(hull(TREE, ()), ())
        self.same(hull(SPOT, ()), ())
        self.same(hull(SPOT, (0, 0, 0)), ())
        for x in range(10):
            self.same(hull(TREE, (x,)), ())
            self.same(hull(TREE, (x, x)), ())

    def test_by_ways(self):
        chance = random.Random(11)
        for land in some_lands(chance, 40):
            places = tuple(chance.randrange(land.many) for _ in range(chance.randint(1, 4)))
            wanted = sorted({i for x in places for y in places for i in roads_between(land, x, y)})
            self.same(hull(land, places), tuple(wanted))

    def test_errors(self):
        self.refuses(BadPlace, 10, hull, TREE, (10,))
        self.refuses(BadPlace, -1, hull, TREE, (3, 0, -1, 11))
        self.refuses(BadPlace, FAR, hull, TREE, (FAR, -1))
        self.refuses(BadPlace, 1, hull, SPOT, (0, 1))

    def test_ring_comes_first(self):
        for places in ((), (0,), (0, 1), (99,)):
            self.refuses(NotTree, 0, hull, RINGED, places)
            self.refuses(NotTree, 0, hull, THREE, places)


class BeyondTest(Case):
    def test_ordinary(self):
        self.same(beyond(TREE, 5, 0), (6, 7, 8, 9))
        self.same(beyond(TREE, 5, 4), (6, 7, 8, 9))
        self.same(beyond(TREE, 5, 6), (0, 1, 2, 3, 4, 5))
        self.same(beyond(TREE, 5, 8), (0, 1, 2, 3, 4, 5))
        self.same(beyond(TREE, 3, 9), (0, 1, 2, 3))
        self.same(beyond(TREE, 0, 3), (0,))
        self.same(beyond(TREE, 0, 0), (1, 2, 3, 4, 5, 6, 7, 8, 9))
        self.same(beyond(TREE, 8, 0), (8,))
        self.same(beyond(WEE, 0, 1), (0,))

    def test_by_ways(self):
        for land in some_lands(random.Random(12), 12):
            for x in range(land.many):
                parted = [roads_between(land, x, y) for y in range(land.many)]
                for road in range(len(land.roads)):
                    self.same(beyond(land, road, x), tuple(y for y in range(land.many) if road in parted[y]))

    def test_errors(self):
        for bad in (-1, 9, 10, FAR, -FAR):
            self.refuses(BadRoad, bad, beyond, TREE, bad, 0)
            self.refuses(BadRoad, bad, beyond, TREE, bad, 10)
        for bad in (-1, 10, FAR, -FAR):
            self.refuses(BadPlace, bad, beyond, TREE, 0, bad)
            self.refuses(BadPlace, bad, beyond, TREE, 8, bad)
        self.refuses(BadRoad, 0, beyond, SPOT, 0, 0)

    def test_ring_comes_first(self):
        for road, x in ((0, 0), (99, 0), (0, 99), (-1, -1)):
            self.refuses(NotTree, 0, beyond, RINGED, road, x)
            self.refuses(NotTree, 0, beyond, THREE, road, x)


class LandStaysTest(Case):
    def test_the_land_stays_as_it_is(self):
        beside(TREE, 3)
        hull(TREE, (1, 9))
        beyond(TREE, 2, 2)
        beside(RINGED, 4)
        self.same(TREE.roads, TREE_ROADS)
        self.same(RINGED.roads, RINGED_ROADS)
