import collections
import fractions
import random

from lampwalks.errors import BadPlace, BadRoad, BadState, NotTree
from lampwalks.lands import made_land
from lampwalks.roadshares import pair_shares, road_shares
from lampwalks.webmakers import alone, line_web, pair_web
from tests.helpers import (
    BUSHY, FOUR, LINE, LONG, SPOT, THREE, TREE, TREE_ROADS, WEE, WIDE, Case, all_states, crossings_of, small_trees,
    some_state)

FAR = 10 ** 30
ZERO = (0,) * 10
TWO = made_land(2, ((0, 1, 1),), (pair_web(1), pair_web(1)))
START = (1, (0, 0, 0))


def shares_of(crossings):
    """The pairs (number, share of it among these numbers)."""
    counts = collections.Counter(crossings)
    parts = [(times, fractions.Fraction(counts[times], sum(counts.values()))) for times in sorted(counts)]
    return tuple((times, (part.numerator, part.denominator)) for times, part in parts)


def all_three(*parts):
    """The pairs of 0, 1 and 2 with these shares."""
    return tuple((times, (part.numerator, part.denominator)) for times, part in enumerate(parts))


class RoadSharesTest(Case):
    def test_of_the_document(self):
        self.same(road_shares(TWO, (0, (0, 0)), 0), ((0, (1, 4)), (1, (1, 2)), (2, (1, 4))))

    def test_without_lamps_to_change_none_is_crossed_twice(self):
        land = made_land(3, ((0, 1, 7), (1, 2, 9)), (pair_web(1), alone(), alone()))
        self.same(road_shares(land, (0, (0, 0, 0)), 0), ((0, (1, 3)), (1, (2, 3))))
        self.same(road_shares(land, (0, (0, 0, 0)), 1), ((0, (2, 3)), (1, (1, 3))))
        self.same(road_shares(land, (1, (0, 0, 0)), 0), ((0, (1, 3)), (1, (1, 3)), (2, (1, 3))))

    def test_several_places_beyond(self):
        land = made_land(3, ((0, 1, 1), (1, 2, 1)), (pair_web(1), line_web(3, 1), line_web(5, 1)))
        self.same(road_shares(land, (0, (1, 1, 1)), 0), ((0, (1, 45)), (1, (2, 3)), (2, (14, 45))))
        self.same(road_shares(land, (0, (1, 1, 1)), 1), ((0, (2, 15)), (1, (1, 3)), (2, (8, 15))))
        self.same(road_shares(land, (2, (1, 1, 1)), 1), ((0, (1, 18)), (1, (2, 3)), (2, (5, 18))))

    def test_all_states_listed(self):
        chance = random.Random(251)
        for land in small_trees(chance, 60, 300):
            for a in (some_state(chance, land), some_state(chance, land)):
                for road in range(len(land.roads)):
                    wanted = shares_of(crossings_of(land, a, b, road) for b in all_states(land))
                    self.same(road_shares(land, a, road), wanted)

    def test_quick_with_ten_places(self):
        for road in range(9):
            n = 6 ** (9 - road)
            # n positions of all lamps beyond, which are 9 - road places
            zero = fractions.Fraction(road + 1, 10 * n)
            twice = fractions.Fraction(road + 1, 10) - zero
            wanted = all_three(zero, fractions.Fraction(9 - road, 10), twice)
            self.same(self.quick(1, road_shares, LONG, (0, ZERO), road), wanted)
        self.quick(1, road_shares, BUSHY, (3, (4,) * 10), 5)


class PairSharesTest(Case):
    def test_of_the_document(self):
        self.same(pair_shares(TWO, 0), ((0, (1, 4)), (1, (1, 2)), (2, (1, 4))))

    def test_without_lamps_to_change(self):
        land = made_land(4, ((0, 1, 7), (1, 2, 9), (2, 3, 1)), (alone(),) * 4)
        # 3 * 1 * 2 of 16 pairs of places are parted
        self.same(pair_shares(land, 0), ((0, (5, 8)), (1, (3, 8))))
        self.same(pair_shares(land, 1), ((0, (1, 2)), (1, (1, 2))))

    def test_all_pairs_listed(self):
        chance = random.Random(252)
        for land in small_trees(chance, 60, 70):
            states = all_states(land)
            for road in range(len(land.roads)):
                wanted = shares_of(crossings_of(land, a, b, road) for a in states for b in states)
                self.same(pair_shares(land, road), wanted)

    def test_quick_with_ten_places(self):
        # each road of the star has one place on one side
        zero = fractions.Fraction(81, 100 * 6) + fractions.Fraction(1, 100 * 6 ** 9)
        once = fractions.Fraction(18, 100)
        for road in range(9):
            self.same(self.quick(1, pair_shares, WIDE, road), all_three(zero, once, 1 - zero - once))


class ErrorsTest(Case):
    STATES = (START, (3, (0, 0, 0)), (0, (0,)), (-1, ()))

    def test_ring_comes_first(self):
        for road in (0, -1, 3, FAR):
            for a in self.STATES:
                self.refuses(NotTree, 0, road_shares, THREE, a, road)
                self.refuses(NotTree, 0, road_shares, FOUR, a, road)
            self.refuses(NotTree, 0, pair_shares, THREE, road)

    def test_the_state_ahead_of_the_road(self):
        for road in (0, -1, 2, FAR):
            self.refuses(BadPlace, 3, road_shares, LINE, (3, (0, 0, 0)), road)
            self.refuses(BadState, 2, road_shares, LINE, (1, (0, 9)), road)
            self.refuses(BadState, (1,), road_shares, LINE, (1, (0, 2, 2)), road)

    def test_the_road(self):
        for road in (-1, 2, 3, FAR, -FAR):
            self.refuses(BadRoad, road, road_shares, LINE, START, road)
            self.refuses(BadRoad, road, pair_shares, LINE, road)
        self.refuses(BadRoad, 0, road_shares, SPOT, (0, (0,)), 0)
        self.refuses(BadRoad, 0, pair_shares, SPOT, 0)
        self.refuses(BadRoad, 1, pair_shares, WEE, 1)

    def test_by_name(self):
        self.same(road_shares(road=0, a=(0, (0, 0)), land=TWO), road_shares(TWO, (0, (0, 0)), 0))
        self.same(pair_shares(road=0, land=TWO), pair_shares(TWO, 0))

    def test_the_land_stays_as_it_is(self):
        road_shares(TREE, (0, ZERO), 4)
        pair_shares(TREE, 4)
        self.same(TREE.roads, TREE_ROADS)
