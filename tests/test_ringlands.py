import random

from lampwalks.errors import BadPlace, BadState, NotRing
from lampwalks.ringgaps import ring_choices
from lampwalks.ringlands import hung, ring_needs
from lampwalks.ringprices import ring_best
from tests.helpers import (
    FOUR, LINE, RINGED, RINGED_ROADS, SPOT, THREE, TREE, Case, all_apart, all_ways, least_costs, some_end, some_lands,
    some_state)

FAR = 10 ** 30
ZERO = (0,) * 4
EIGHT = (0,) * 8


def ring_of(land):
    """The places of the ring from the least one on, towards its lesser neighbour: the longest closed way there is."""
    pairs = {road[:2] for road in land.roads}
    closed = [passed for x in range(land.many) for y in range(land.many)
              for passed, _ in all_ways(land.many, land.roads, x, y)
              if len(passed) > 2 and tuple(sorted((x, y))) in pairs]
    return min(closed)


def hook_of(land, places, x):
    """The first place of the ring that a walker from x comes to, seen on any way to a place of the ring."""
    passed, _ = all_ways(land.many, land.roads, x, places[0])[0]
    return next(y for y in passed if y in places)


def needs_of(land, places, a, b):
    points = [a[0], b[0]] + [x for x in range(land.many) if a[1][x] != b[1][x]]
    hooks = [hook_of(land, places, x) for x in points]
    return tuple(y for y in places if y in hooks)


def choices_of(land, places, a, b):
    """ring_choices by walking round the ring place by place."""
    needs = needs_of(land, places, a, b)
    start, end = hook_of(land, places, a[0]), hook_of(land, places, b[0])
    lengths = {frozenset(road[:2]): road[2] for road in land.roads}

    def stretch(order, steps):
        """All the places of the stretch from start on, so many roads long, and its length and gap."""
        at, seen = order.index(start), [(start, 0)]
        for k in range(steps):
            x, y = order[(at + k) % len(order)], order[(at + k + 1) % len(order)]
            seen.append((y, seen[-1][1] + lengths[frozenset((x, y))]))
        marks = [told for i, (y, told) in enumerate(seen) if y in needs or i in (0, len(seen) - 1)]
        gaps = [later - sooner for sooner, later in zip(marks, marks[1:])]
        return seen[-1][1], max(gaps, default=0)

    other = places[:1] + places[:0:-1]
    forward = (places.index(end) - places.index(start)) % len(places)
    p, p_gap = stretch(places, forward)
    q, q_gap = stretch(other, len(places) - forward)
    return p + 2 * (q - q_gap), q + 2 * (p - p_gap)


class HungTest(Case):
    def test_ordinary(self):
        self.same([hung(RINGED, x) for x in range(8)], [4, 1, 2, 6, 4, 6, 6, 6])

    def test_the_ring_itself(self):
        self.same([hung(FOUR, x) for x in range(4)], [0, 1, 2, 3])
        self.same([hung(THREE, x) for x in range(3)], [0, 1, 2])

    def test_by_walking(self):
        chance = random.Random(311)
        for land in some_lands(chance, 60, ring=True):
            places = ring_of(land)
            for x in range(land.many):
                self.same(hung(land, x), hook_of(land, places, x))

    def test_errors(self):
        for x in (3, -1, FAR, -FAR):
            self.refuses(BadPlace, x, hung, THREE, x)
            for land in (LINE, SPOT, TREE):
                self.refuses(NotRing, 0, hung, land, x)
        self.refuses(NotRing, 0, hung, LINE, 0)


class RingNeedsTest(Case):
    def test_ordinary(self):
        self.same(ring_needs(FOUR, (0, ZERO), (0, (0, 0, 1, 0))), (0, 2))
        self.same(ring_needs(FOUR, (3, ZERO), (1, (0, 0, 1, 0))), (1, 2, 3))
        self.same(ring_needs(FOUR, (0, ZERO), (0, ZERO)), (0,))
        # the ring is 1 - 4 - 2 - 6
        self.same(ring_needs(RINGED, (7, EIGHT), (0, EIGHT)), (4, 6))
        self.same(ring_needs(RINGED, (7, EIGHT), (3, (0, 0, 2, 0, 0, 0, 0, 1))), (2, 6))
        self.same(ring_needs(RINGED, (1, EIGHT), (1, (1, 0, 0, 1, 0, 0, 0, 0))), (1, 4, 6))
        self.same(ring_needs(RINGED, (6, EIGHT), (7, EIGHT)), (6,))

    def test_a_state_and_itself(self):
        self.same(ring_needs(RINGED, (5, EIGHT), (5, EIGHT)), (6,))
        self.same(ring_needs(THREE, (2, (1, 0, 0)), (2, (1, 0, 0))), (2,))

    def test_by_walking(self):
        chance = random.Random(312)
        for land in some_lands(chance, 60, ring=True):
            a = some_state(chance, land)
            b = some_end(chance, land, a)
            self.same(ring_needs(land, a, b), needs_of(land, ring_of(land), a, b))


class RingChoicesTest(Case):
    def test_examples(self):
        self.same(ring_choices(FOUR, (0, ZERO), (0, (0, 0, 1, 0))), (4, 4))
        self.same(ring_best(FOUR, (0, ZERO), (0, (0, 0, 1, 0))), 0)
        self.same(ring_choices(FOUR, (0, ZERO), (0, (0, 1, 1, 1))), (6, 4))
        self.same(ring_best(FOUR, (0, ZERO), (0, (0, 1, 1, 1))), 1)
        self.same(ring_choices(FOUR, (0, ZERO), (0, ZERO)), (0, 4))
        self.same(ring_best(FOUR, (0, ZERO), (0, ZERO)), 0)

    def test_ordinary(self):
        # P is 1 - 4 - 2 with 2 + 1, Q is 1 - 6 - 2 with 5 + 1
        self.same(ring_choices(RINGED, (1, EIGHT), (2, EIGHT)), (3, 6))
        # 0 hangs at 4, 3 and 7 at 6
        self.same(ring_choices(RINGED, (1, EIGHT), (2, (1, 0, 0, 0, 0, 0, 0, 0))), (3, 6 + 2))
        self.same(ring_choices(RINGED, (1, EIGHT), (2, (0, 0, 0, 1, 0, 0, 0, 0))), (3 + 2, 6))
        self.same(ring_choices(RINGED, (1, EIGHT), (2, (1, 0, 0, 0, 0, 0, 0, 1))), (3 + 2, 6 + 2))
        # from 2 to 1: P goes 2 - 6 - 1, Q goes 2 - 4 - 1
        self.same(ring_choices(RINGED, (2, EIGHT), (1, (0, 0, 0, 1, 0, 0, 0, 0))), (6, 3 + 2))
        self.same(ring_best(RINGED, (2, EIGHT), (1, (0, 0, 0, 1, 0, 0, 0, 0))), 1)
        self.same(ring_best(RINGED, (1, EIGHT), (2, (0, 0, 0, 1, 0, 0, 0, 0))), 0)

    def test_the_order_of_the_ring_tells_which_stretch_is_the_first(self):
        # the ring is 0 - 1 - 2
        self.same(ring_choices(THREE, (0, (0, 0, 0)), (2, (0, 0, 0))), (2, 5))
        self.same(ring_choices(THREE, (2, (0, 0, 0)), (0, (0, 0, 0))), (5, 2))
        self.same(ring_best(THREE, (0, (0, 0, 0)), (2, (0, 0, 0))), 0)
        self.same(ring_best(THREE, (2, (0, 0, 0)), (0, (0, 0, 0))), 1)
        self.same(ring_choices(THREE, (1, (0, 0, 0)), (0, (0, 0, 0))), (6, 1))

    def test_walkers_who_hang_at_one_place(self):
        # no other need: the whole ring is left out
        self.same(ring_choices(RINGED, (7, EIGHT), (3, EIGHT)), (0, 9))
        self.same(ring_choices(RINGED, (7, EIGHT), (7, EIGHT)), (0, 9))
        # the gap from 6 over 1 to 4 is left out
        self.same(ring_choices(RINGED, (7, EIGHT), (3, (1, 0, 0, 0, 0, 0, 0, 0))), (2 * (9 - 7), 9))

    def test_alike_choices(self):
        self.same(ring_choices(FOUR, (0, ZERO), (2, ZERO)), (2, 2))
        self.same(ring_best(FOUR, (0, ZERO), (2, ZERO)), 0)
        self.same(ring_choices(FOUR, (3, ZERO), (1, ZERO)), (2, 2))
        self.same(ring_best(FOUR, (3, ZERO), (1, ZERO)), 0)

    def test_by_walking(self):
        chance = random.Random(313)
        for land in some_lands(chance, 150, ring=True):
            a = some_state(chance, land)
            b = some_end(chance, land, a)
            first, second = choices_of(land, ring_of(land), a, b)
            self.same(ring_choices(land, a, b), (first, second))
            self.same(ring_best(land, a, b), 0 if first <= second else 1)

    def test_the_better_one_is_what_the_ring_costs(self):
        chance = random.Random(314)
        for land in some_lands(chance, 8, ring=True, most=4, lamps=(THREE.lamps[0], THREE.lamps[2])):
            a = some_state(chance, land)
            places = ring_of(land)
            tables = [all_apart(lamp.many, lamp.roads) for lamp in land.lamps]
            around = [road for road in land.roads if road[0] in places and road[1] in places]
            if len(around) == len(land.roads):
                for b, least in least_costs(land, a).items():
                    lamps = sum(table[p, q] for table, p, q in zip(tables, a[1], b[1]))
                    self.same(min(ring_choices(land, a, b)), least - lamps)


class ErrorsTest(Case):
    def test_trees_come_first(self):
        good = (1, (0, 0, 0))
        for call in (ring_needs, ring_choices, ring_best):
            for a, b in ((good, good), ((3, (0, 0, 0)), good), (good, (0, (0,))), ((-1, ()), (-1, ()))):
                self.refuses(NotRing, 0, call, LINE, a, b)
                self.refuses(NotRing, 0, call, SPOT, a, b)

    def test_states_one_after_the_other(self):
        good = (1, (0, 0, 0))
        for call in (ring_needs, ring_choices, ring_best):
            for bad in (good, (9, ()), (0, (7, 7))):
                self.refuses(BadPlace, 3, call, THREE, (3, (0, 0, 0)), bad)
                self.refuses(BadPlace, -FAR, call, THREE, (-FAR, (9,)), bad)
                self.refuses(BadState, 2, call, THREE, (1, (0, 9)), bad)
                self.refuses(BadState, (1,), call, THREE, (1, (0, 2, 2)), bad)
            self.refuses(BadPlace, -1, call, THREE, good, (-1, (0, 0)))
            self.refuses(BadState, 4, call, THREE, good, (1, (9, 9, 9, 9)))
            self.refuses(BadState, (2,), call, THREE, good, (1, (0, 0, 1)))

    def test_the_land_stays_as_it_is(self):
        hung(RINGED, 7)
        ring_needs(RINGED, (7, EIGHT), (0, EIGHT))
        ring_choices(RINGED, (7, EIGHT), (0, EIGHT))
        ring_best(RINGED, (7, EIGHT), (0, EIGHT))
        self.same(RINGED.roads, RINGED_ROADS)
