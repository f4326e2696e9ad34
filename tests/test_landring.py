import itertools
import random

from lampwalks.errors import NotRing
from lampwalks.landring import ring
from lampwalks.lands import made_land
from lampwalks.webmakers import alone
from tests.helpers import LINE, RINGED, RINGED_ROADS, SPOT, THREE, TREE, WEE, Case, all_ways, some_lands


def land_of_roads(many, pairs):
    return made_land(many, tuple((x, y, 1) for x, y in pairs), (alone(),) * many)


def ring_by_ways(land):
    """The ring: between the ends of each of its roads there is one more way, all around."""
    around = ()
    for x, y, _ in land.roads:
        for passed, _ in all_ways(land.many, land.roads, x, y):
            around = max(around, passed, key=len)
    at = around.index(min(around))
    there = around[at:] + around[:at]
    back = there[:1] + there[:0:-1]
    return there if there[1] < back[1] else back


class RingTest(Case):
    def test_the_whole_land(self):
        self.same(ring(THREE), (0, 1, 2))
        self.same(ring(land_of_roads(4, ((0, 1), (0, 3), (1, 2), (2, 3)))), (0, 1, 2, 3))
        self.same(ring(land_of_roads(4, ((0, 2), (0, 3), (1, 2), (1, 3)))), (0, 2, 1, 3))
        self.same(ring(land_of_roads(4, ((0, 1), (0, 2), (1, 3), (2, 3)))), (0, 1, 3, 2))

    def test_ten_places(self):
        pairs = ((0, 5), (0, 9), (1, 5), (1, 6), (2, 6), (2, 7), (3, 7), (3, 8), (4, 8), (4, 9))
        self.same(ring(land_of_roads(10, pairs)), (0, 5, 1, 6, 2, 7, 3, 8, 4, 9))

    def test_places_that_hang(self):
        self.same(ring(RINGED), (1, 4, 2, 6))
        self.same(ring(land_of_roads(4, ((0, 3), (1, 2), (1, 3), (2, 3)))), (1, 2, 3))
        self.same(ring(land_of_roads(10, ((0, 1), (1, 2), (2, 3), (3, 4), (4, 5), (5, 6), (6, 7), (7, 8), (7, 9),
                                          (8, 9)))), (7, 8, 9))

    def test_lengths_do_not_matter(self):
        for lengths in itertools.product((1, 100), repeat=3):
            roads = tuple(pair + (length,) for pair, length in zip(((0, 1), (0, 2), (1, 2)), lengths))
            self.same(ring(made_land(3, roads, (alone(),) * 3)), (0, 1, 2))

    def test_by_ways(self):
        for land in some_lands(random.Random(31), 60, ring=True):
            self.same(ring(land), ring_by_ways(land))

    def test_trees(self):
        for land in (SPOT, WEE, LINE, TREE):
            self.refuses(NotRing, 0, ring, land)

    def test_the_land_stays_as_it_is(self):
        ring(RINGED)
        self.same(RINGED.roads, RINGED_ROADS)
