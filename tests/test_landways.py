import random

from lampwalks.errors import BadPlace, NotTree
from lampwalks.landways import apart, way
from tests.helpers import (
    LINE, RINGED, RINGED_ROADS, SPOT, THREE, TREE, TREE_ROADS, WEE, Case, all_apart, all_ways, some_lands)

FAR = 10 ** 30


class WayTest(Case):
    def test_ordinary(self):
        self.same(way(TREE, 0, 8), (0, 3, 4, 6, 7, 8))
        self.same(way(TREE, 8, 0), (8, 7, 6, 4, 3, 0))
        self.same(way(TREE, 9, 7), (9, 6, 7))
        self.same(way(TREE, 3, 4), (3, 4))
        self.same(way(TREE, 2, 1), (2, 3, 1))
        self.same(way(LINE, 2, 0), (2, 1, 0))
        self.same(way(WEE, 1, 0), (1, 0))

    def test_one_place(self):
        self.same(way(SPOT, 0, 0), (0,))
        for x in range(10):
            self.same(way(TREE, x, x), (x,))

    def test_by_ways(self):
        for land in some_lands(random.Random(21), 25):
            for x in range(land.many):
                for y in range(land.many):
                    ((passed, _),) = all_ways(land.many, land.roads, x, y)
                    self.same(way(land, x, y), passed)

    def test_errors(self):
        for bad in (-1, 10, FAR, -FAR):
            self.refuses(BadPlace, bad, way, TREE, bad, 0)
            self.refuses(BadPlace, bad, way, TREE, 0, bad)
            self.refuses(BadPlace, bad, way, TREE, bad, 11)
        self.refuses(BadPlace, 1, way, SPOT, 0, 1)

    def test_ring_comes_first(self):
        for x, y in ((0, 0), (0, 1), (99, 0), (0, 99), (-1, -2)):
            self.refuses(NotTree, 0, way, RINGED, x, y)
            self.refuses(NotTree, 0, way, THREE, x, y)


class ApartTest(Case):
    def test_trees(self):
        self.same(apart(SPOT, 0, 0), 0)
        self.same(apart(WEE, 1, 0), 1)
        self.same(apart(TREE, 0, 8), 114)
        self.same(apart(TREE, 8, 0), 114)
        self.same(apart(TREE, 1, 2), 6)
        self.same(apart(TREE, 7, 7), 0)

    def test_lands_with_a_ring(self):
        self.same(apart(THREE, 0, 2), 2)
        self.same(apart(THREE, 2, 0), 2)
        self.same(apart(THREE, 1, 1), 0)
        self.same(apart(RINGED, 1, 6), 4)
        self.same(apart(RINGED, 0, 7), 19)
        self.same(apart(RINGED, 7, 1), 18)

    def test_by_going_through_all(self):
        chance = random.Random(22)
        for land in some_lands(chance, 20) + some_lands(chance, 30, ring=True):
            table = all_apart(land.many, land.roads)
            for x, y in table:
                self.same(apart(land, x, y), table[x, y])

    def test_errors(self):
        for land, bad in ((TREE, 10), (TREE, -1), (TREE, FAR), (RINGED, 8), (RINGED, -1), (RINGED, -FAR)):
            self.refuses(BadPlace, bad, apart, land, bad, 0)
            self.refuses(BadPlace, bad, apart, land, 0, bad)
            self.refuses(BadPlace, bad, apart, land, bad, 11)

    def test_the_land_stays_as_it_is(self):
        way(TREE, 3, 9)
        apart(RINGED, 0, 7)
        self.same(TREE.roads, TREE_ROADS)
        self.same(RINGED.roads, RINGED_ROADS)
