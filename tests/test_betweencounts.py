import random

from lampwalks.betweencounts import between_many, zone
from lampwalks.betweenspheres import between_sphere
from lampwalks.errors import BadPlace, BadState, NotTree
from lampwalks.lands import made_land
from lampwalks.webmakers import alone, line_web, pair_web, wheel_web
from tests.helpers import (
    BUSHY, FOUR, LINE, LONG, MANY_WAYS, SPOT, THREE, TREE, TREE_ROADS, UNLIKE, WIDE, Case, all_ways, least_costs,
    small_trees, some_end, some_lands, some_state, tally)

FAR = 10 ** 30
ZERO = (0,) * 10
START = (1, (0, 0, 0))
END_A = (1, (1, 0, 1))
END_B = (2, (1, 0, 1))


def way_of(land, x, y):
    """The places from x to y."""
    ((passed, _),) = all_ways(land.many, land.roads, x, y)
    return passed


def states_between(land, a, b):
    """The states between a and b with their prices from a, by the least costs of all."""
    gone, left = least_costs(land, a), least_costs(land, b)
    return {x: spent for x, spent in gone.items() if spent + left[x] == gone[b]}


def drawn(seed, count):
    """Drawn lands with two states each."""
    chance = random.Random(seed)
    found = []
    for land in small_trees(chance, count, 1500) + some_lands(chance, 5, most=3):
        a = some_state(chance, land)
        found.append((land, a, some_end(chance, land, a)))
    return found


class BetweenManyTest(Case):
    def test_examples(self):
        self.same(between_many(LINE, START, END_A), 12)
        self.same(between_many(LINE, START, END_B), 6)

    def test_ordinary(self):
        # only going: the places of the way
        self.same(between_many(TREE, (0, ZERO), (8, ZERO)), 6)
        # one lamp: its inner positions
        spot = made_land(1, (), (UNLIKE,))
        self.same(between_many(spot, (0, (0,)), (0, (3,))), 4)
        self.same(between_many(spot, (0, (1,)), (0, (3,))), 3)
        # 1 and its lamp, the road to 0 and back: (1, any), (0, any), (1, any) with three positions of the own lamp
        land = made_land(2, ((0, 1, 5),), (pair_web(1), line_web(3, 1)))
        self.same(between_many(land, (1, (0, 0)), (1, (1, 2))), 3 * (2 + 2))

    def test_a_state_and_itself(self):
        for land, state in ((SPOT, (0, (0,))), (LINE, (2, (0, 1, 1))), (WIDE, (7, (5,) * 10)), (LONG, (0, ZERO))):
            self.same(between_many(land, state, state), 1)

    def test_by_search(self):
        for land, a, b in drawn(141, 60):
            self.same(between_many(land, a, b), len(states_between(land, a, b)))

    def test_quick_with_ten_places(self):
        # six inner positions of all lamps: 9 branches of 6 states each, in each of which the walker may be
        self.same(self.quick(1, between_many, WIDE, (0, ZERO), (0, (5,) * 10)), 6 * (2 ** 9 + 2 ** 8 * 9 * 6))
        self.same(self.quick(1, between_many, LONG, (0, ZERO), (9, (5,) * 10)), 60)
        inner = 6
        for _ in range(9):
            inner = 6 * (2 + inner)
        self.same(self.quick(1, between_many, LONG, (0, ZERO), (0, (5,) * 10)), inner)
        self.quick(1, between_many, BUSHY, (4, ZERO), (6, (5,) * 10))


class ZoneTest(Case):
    def test_examples(self):
        self.same(zone(LINE, START, END_A, 1), 12)
        self.same(zone(LINE, START, END_B, 1), 4)
        self.same(zone(LINE, START, END_B, 2), 2)

    def test_ordinary(self):
        for x in (0, 3, 4, 6, 7, 8):
            self.same(zone(TREE, (0, ZERO), (8, ZERO), x), 1)
        # at 3 the branch 2 with 3 inner positions: 2 + 3
        b = (4, (0, 0, 2, 0, 3, 0, 0, 0, 0, 0))
        self.same([zone(TREE, (0, ZERO), b, x) for x in (0, 3, 4)], [1, 5, 6])

    def test_a_state_and_itself(self):
        self.same(zone(SPOT, (0, (0,)), (0, (0,)), 0), 1)
        self.same(zone(LINE, START, START, 1), 1)

    def test_by_search(self):
        for land, a, b in drawn(142, 60):
            places = way_of(land, a[0], b[0])
            counts = dict.fromkeys(places, 0)
            for place, _ in states_between(land, a, b):
                # the place of the way that is come to first
                counts[next(x for x in way_of(land, place, a[0]) if x in places)] += 1
            for v in places:
                self.same(zone(land, a, b, v), counts[v])
            self.same(between_many(land, a, b), sum(counts.values()))

    def test_places_off_the_way(self):
        for v in (0, 2, 3, -1, FAR, -FAR):
            self.refuses(BadPlace, v, zone, LINE, START, END_A, v)
        for v in (0, 3, -1):
            self.refuses(BadPlace, v, zone, LINE, START, END_B, v)
        for v in (1, 2, 5, 9, 10):
            self.refuses(BadPlace, v, zone, TREE, (0, ZERO), (8, ZERO), v)
        self.refuses(BadPlace, 1, zone, SPOT, (0, (0,)), (0, (0,)), 1)

    def test_quick_with_ten_places(self):
        self.same(self.quick(1, zone, LONG, (0, ZERO), (9, (5,) * 10), 4), 6)
        self.same(self.quick(1, zone, WIDE, (0, ZERO), (0, (5,) * 10), 0), 6 * (2 ** 9 + 2 ** 8 * 9 * 6))
        self.quick(1, zone, BUSHY, (4, ZERO), (6, (5,) * 10), 6)


class BetweenSphereTest(Case):
    def test_example(self):
        self.same(between_sphere(LINE, START, END_A), ((0, 1), (1, 2), (2, 2), (3, 2), (4, 2), (5, 2), (6, 1)))

    def test_ordinary(self):
        # one after the other
        self.same(between_sphere(LINE, START, END_B), ((0, 1), (1, 1), (2, 1), (3, 1), (4, 1), (5, 1)))
        self.same(between_sphere(TREE, (0, ZERO), (8, ZERO)), ((0, 1), (2, 1), (9, 1), (109, 1), (112, 1), (114, 1)))
        # at 0 the own lamp, then the road to 1
        land = made_land(2, ((0, 1, 5),), (line_web(3, 1), pair_web(9)))
        self.same(between_sphere(land, (0, (0, 0)), (1, (2, 1))), ((0, 1), (1, 1), (2, 1), (7, 1), (16, 1)))

    def test_several_least_ways(self):
        spot = made_land(1, (), (UNLIKE,))
        self.same(between_sphere(spot, (0, (0,)), (0, (3,))), ((0, 1), (1, 1), (2, 1), (3, 1)))
        around = made_land(1, (), (wheel_web(4, 2),))
        self.same(between_sphere(around, (0, (0,)), (0, (2,))), ((0, 1), (2, 2), (4, 1)))
        many = made_land(1, (), (MANY_WAYS,))
        self.same(between_sphere(many, (0, (0,)), (0, (5,))), ((0, 1), (1, 1), (2, 1), (3, 1), (4, 1), (5, 1)))

    def test_a_state_and_itself(self):
        for land, state in ((SPOT, (0, (0,))), (LINE, (2, (0, 1, 1))), (WIDE, (7, (5,) * 10)), (LONG, (0, ZERO))):
            self.same(between_sphere(land, state, state), ((0, 1),))

    def test_by_search(self):
        for land, a, b in drawn(143, 80):
            self.same(between_sphere(land, a, b), tally(states_between(land, a, b).values()))

    def test_quick_with_ten_places(self):
        chance = random.Random(144)
        for land in some_lands(chance, 12, lamps=(alone(), pair_web(97), line_web(3, 61), wheel_web(3, 89))):
            a = some_state(chance, land)
            b = some_state(chance, land)
            pairs = self.quick(1, between_sphere, land, a, b)
            self.same(sum(many for _, many in pairs), between_many(land, a, b))
        for land in (WIDE, LONG, BUSHY):
            for b in ((6, (5,) * 10), (4, (4,) * 10)):
                pairs = self.quick(2, between_sphere, land, (4, ZERO), b)
                self.same(sum(many for _, many in pairs), between_many(land, (4, ZERO), b))
                self.same((pairs[0], pairs[-1][1]), ((0, 1), 1))


class ErrorsTest(Case):
    def test_ring_comes_first(self):
        for a, b in ((START, START), ((3, (0, 0, 0)), START), (START, (0, (0,))), ((-1, ()), (-1, ()))):
            self.refuses(NotTree, 0, between_many, THREE, a, b)
            self.refuses(NotTree, 0, between_sphere, THREE, a, b)
            for v in (1, 5):
                self.refuses(NotTree, 0, zone, THREE, a, b, v)
        self.refuses(NotTree, 0, between_many, FOUR, (0, (0,) * 4), (0, (0,) * 4))

    def check(self, kind, what, a, b):
        self.refuses(kind, what, between_many, LINE, a, b)
        self.refuses(kind, what, between_sphere, LINE, a, b)
        for v in (1, 5):
            self.refuses(kind, what, zone, LINE, a, b, v)

    def test_states_one_after_the_other(self):
        for bad in (START, (9, ()), (0, (7, 7))):
            self.check(BadPlace, 3, (3, (0, 0, 0)), bad)
            self.check(BadState, 2, (1, (0, 9)), bad)
            self.check(BadState, (1,), (1, (0, 2, 2)), bad)
        self.check(BadPlace, -1, START, (-1, (0, 0)))
        self.check(BadState, 4, START, (1, (9, 9, 9, 9)))
        self.check(BadState, (2,), START, (1, (0, 0, 2)))

    def test_the_land_stays_as_it_is(self):
        between_many(TREE, (0, ZERO), (9, ZERO))
        between_sphere(TREE, (0, ZERO), (9, ZERO))
        zone(TREE, (0, ZERO), (9, ZERO), 3)
        self.same(TREE.roads, TREE_ROADS)
