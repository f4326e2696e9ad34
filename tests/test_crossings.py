import random

from lampwalks.crossings import changed, crossings
from lampwalks.errors import BadPlace, BadState, NotTree
from lampwalks.lampparts import lamp_part
from lampwalks.lands import made_land
from lampwalks.webmakers import alone, line_web, pair_web, star_web
from lampwalks.webs import made_web
from tests.helpers import (
    LINE, RINGED, RINGED_ROADS, SPOT, THREE, TREE, TREE_ROADS, WEE, Case, all_apart, all_states, all_ways,
    least_costs, some_lands, some_state)

FAR = 10 ** 30
ZERO = (0,) * 10
SIX = made_land(1, (), (star_web(6, 9),))


def row_of(many, **positions):
    """A row of zeros, but for the lamps named as p3=1."""
    return tuple(positions.get(f"p{x}", 0) for x in range(many))


class ChangedTest(Case):
    def test_ordinary(self):
        self.same(changed(LINE, (1, (0, 0, 0)), (1, (1, 0, 1))), (0, 2))
        self.same(changed(LINE, (1, (0, 1, 1)), (2, (1, 1, 1))), (0,))
        self.same(changed(LINE, (0, (1, 1, 1)), (2, (0, 0, 0))), (0, 1, 2))
        self.same(changed(TREE, (3, ZERO), (8, row_of(10, p9=1, p3=2, p8=5))), (3, 8, 9))
        self.same(changed(SIX, (0, (5,)), (0, (2,))), (0,))

    def test_nothing_changed(self):
        self.same(changed(LINE, (1, (0, 1, 0)), (1, (0, 1, 0))), ())
        self.same(changed(LINE, (0, (0, 1, 0)), (2, (0, 1, 0))), ())
        self.same(changed(SPOT, (0, (0,)), (0, (0,))), ())

    def test_lands_with_a_ring(self):
        self.same(changed(THREE, (0, (0, 1, 0)), (2, (1, 0, 0))), (0, 1))
        self.same(changed(RINGED, (0, row_of(8)), (0, row_of(8, p7=1, p4=5))), (4, 7))
        self.same(changed(RINGED, (0, row_of(8, p4=2)), (3, row_of(8, p4=2))), ())


class CrossingsTest(Case):
    def test_example_a(self):
        self.same(crossings(LINE, (1, (0, 0, 0)), (1, (1, 0, 1))), (2, 2))

    def test_example_b(self):
        self.same(crossings(LINE, (1, (0, 0, 0)), (2, (1, 0, 1))), (2, 1))

    def test_a_road_between_the_walkers_is_crossed_once(self):
        self.same(crossings(LINE, (0, (0, 0, 0)), (2, (0, 0, 0))), (1, 1))
        self.same(crossings(LINE, (0, (0, 0, 0)), (2, (1, 1, 1))), (1, 1))
        self.same(crossings(LINE, (2, (0, 0, 0)), (1, (0, 0, 0))), (0, 1))

    def test_what_is_changed_at_the_walkers_place_needs_no_road(self):
        self.same(crossings(LINE, (0, (0, 0, 0)), (0, (1, 0, 0))), (0, 0))
        self.same(crossings(LINE, (0, (0, 0, 0)), (0, (0, 1, 0))), (2, 0))
        self.same(crossings(LINE, (0, (0, 0, 0)), (0, (0, 0, 1))), (2, 2))
        self.same(crossings(WEE, (1, (0, 0)), (1, (0, 1))), (0,))
        self.same(crossings(WEE, (0, (0, 1)), (0, (0, 0))), (2,))

    def test_ten_places(self):
        self.same(crossings(TREE, (0, ZERO), (9, row_of(10, p2=2, p8=5))), (1, 0, 2, 1, 0, 1, 2, 1, 2))
        self.same(crossings(TREE, (5, ZERO), (5, row_of(10, p1=1, p3=2))), (0, 2, 0, 2, 2, 0, 0, 0, 0))
        self.same(crossings(TREE, (8, ZERO), (0, row_of(10, p4=3, p9=1))), (1, 0, 0, 1, 0, 1, 1, 2, 1))

    def test_a_state_and_itself(self):
        self.same(crossings(SPOT, (0, (0,)), (0, (0,))), ())
        self.same(crossings(WEE, (1, (0, 1)), (1, (0, 1))), (0,))
        self.same(crossings(TREE, (4, row_of(10, p3=2)), (4, row_of(10, p3=2))), (0,) * 9)

    def test_one_place(self):
        self.same(crossings(SIX, (0, (0,)), (0, (5,))), ())

    def test_by_ways(self):
        chance = random.Random(61)
        for land in some_lands(chance, 60):
            a, b = some_state(chance, land), some_state(chance, land)
            if chance.random() < 0.7:
                keep = chance.randrange(land.many)
                b = (b[0], tuple(p if x != keep else q for x, (p, q) in enumerate(zip(a[1], b[1]))))
            self.same(crossings(land, a, b), tuple(self.crossed(land, road, a, b) for road in land.roads))

    def crossed(self, land, road, a, b):
        def parts(x, y):
            ((passed, _),) = all_ways(land.many, land.roads, x, y)
            return road[:2] in zip(passed, passed[1:]) or road[1::-1] in zip(passed, passed[1:])
        if parts(a[0], b[0]):
            return 1
        return 2 if any(parts(a[0], x) for x in range(land.many) if a[1][x] != b[1][x]) else 0


class LampPartTest(Case):
    def test_examples(self):
        self.same(lamp_part(LINE, (1, (0, 0, 0)), (1, (1, 0, 1))), 2)
        self.same(lamp_part(LINE, (1, (0, 0, 0)), (2, (1, 0, 1))), 2)

    def test_ordinary(self):
        self.same(lamp_part(TREE, (0, ZERO), (9, row_of(10, p2=2, p8=5))), 9)
        self.same(lamp_part(TREE, (5, ZERO), (5, row_of(10, p1=1, p3=2))), 7)
        self.same(lamp_part(TREE, (5, row_of(10, p4=1)), (0, row_of(10, p4=5))), 200)
        self.same(lamp_part(TREE, (5, row_of(10, p7=3)), (0, row_of(10, p7=1))), 2)
        self.same(lamp_part(SIX, (0, (1,)), (0, (5,))), 18)

    def test_a_shorter_way_than_the_road(self):
        web = made_web(3, ((0, 1, 10), (0, 2, 1), (1, 2, 1)))
        land = made_land(2, ((0, 1, 1),), (web, alone()))
        self.same(lamp_part(land, (0, (0, 0)), (1, (1, 0))), 2)

    def test_a_state_and_itself(self):
        self.same(lamp_part(SPOT, (0, (0,)), (0, (0,))), 0)
        self.same(lamp_part(TREE, (0, row_of(10, p4=3)), (0, row_of(10, p4=3))), 0)
        self.same(lamp_part(TREE, (0, row_of(10, p4=3)), (7, row_of(10, p4=3))), 0)

    def test_lands_with_a_ring(self):
        self.same(lamp_part(THREE, (0, (0, 1, 0)), (2, (1, 0, 0))), 2)
        self.same(lamp_part(RINGED, (0, row_of(8)), (7, row_of(8, p0=1, p2=2, p4=3, p6=1))), 2 + 2 + 3 + 9)
        self.same(lamp_part(RINGED, (0, row_of(8)), (7, row_of(8))), 0)

    def test_by_going_through_all(self):
        chance = random.Random(62)
        for land in some_lands(chance, 30) + some_lands(chance, 30, ring=True):
            a, b = some_state(chance, land), some_state(chance, land)
            parts = [all_apart(lamp.many, lamp.roads)[p, q] for lamp, p, q in zip(land.lamps, a[1], b[1])]
            self.same(lamp_part(land, a, b), sum(parts))


class PartsTogetherTest(Case):
    """[8]: what the roads and the lamps cost together is the least cost of a run."""

    def test_all_pairs_of_states(self):
        mixed = made_land(3, ((0, 2, 4), (1, 2, 1)), (line_web(3, 2), pair_web(5), alone()))
        for land in (SPOT, SIX, WEE, LINE, mixed):
            for a in all_states(land):
                for b, least in least_costs(land, a).items():
                    lengths = [many * road[2] for many, road in zip(crossings(land, a, b), land.roads)]
                    self.assertEqual(sum(lengths) + lamp_part(land, a, b), least)


class ErrorsTest(Case):
    def test_states_one_after_the_other(self):
        good = (1, (0, 0, 0))
        for call in (changed, crossings, lamp_part):
            for bad in (good, (9, ()), (0, (7, 7))):
                self.refuses(BadPlace, 3, call, LINE, (3, (0, 0, 0)), bad)
                self.refuses(BadPlace, -1, call, LINE, (-1, (9,)), bad)
                self.refuses(BadState, 2, call, LINE, (1, (0, 9)), bad)
                self.refuses(BadState, (1,), call, LINE, (1, (0, 2, 2)), bad)
            self.refuses(BadPlace, FAR, call, LINE, good, (FAR, (0, 0)))
            self.refuses(BadPlace, -FAR, call, LINE, good, (-FAR, (0, 0, 0)))
            self.refuses(BadState, 4, call, LINE, good, (1, (9, 9, 9, 9)))
            self.refuses(BadState, (0,), call, LINE, good, (1, (-1, 2, 0)))
            self.refuses(BadState, (2,), call, LINE, good, (1, (0, 0, 2)))
            self.refuses(BadState, (0,), call, SPOT, (0, (0,)), (0, (1,)))

    def test_lands_with_a_ring(self):
        good = (1, (0, 0, 0))
        for call in (changed, lamp_part):
            self.refuses(BadPlace, 3, call, THREE, (3, (0, 0, 0)), good)
            self.refuses(BadState, (2,), call, THREE, good, (1, (0, 0, 1)))

    def test_ring_comes_first_for_crossings(self):
        good = (1, (0, 0, 0))
        for a, b in ((good, good), ((3, (0, 0, 0)), good), (good, (0, (0,))), ((-1, ()), (-1, ()))):
            self.refuses(NotTree, 0, crossings, THREE, a, b)
        self.refuses(NotTree, 0, crossings, RINGED, (0, row_of(8)), (0, row_of(8)))

    def test_the_land_stays_as_it_is(self):
        crossings(TREE, (0, ZERO), (9, row_of(10, p2=2, p8=5)))
        lamp_part(RINGED, (0, row_of(8)), (7, row_of(8, p0=1)))
        self.same(TREE.roads, TREE_ROADS)
        self.same(RINGED.roads, RINGED_ROADS)
