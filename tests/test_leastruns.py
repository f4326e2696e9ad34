import random

from lampwalks.errors import BadPlace, BadState, NotTree
from lampwalks.lands import made_land
from lampwalks.leastruns import least_run, lessening
from lampwalks.prices import price
from lampwalks.runs import run_right
from lampwalks.webmakers import alone, pair_web, wheel_web
from tests.helpers import (
    BUSHY, FOUR, LINE, LONG, MANY_WAYS, SMALL_WEBS, SPOT, THREE, TREE, TREE_ROADS, UNLIKE, WEE, WIDE, Case, all_apart,
    all_states, all_ways, least_costs, least_deeds, least_runs, least_runs_many, some_end, some_lands, some_state)

ZERO = (0,) * 10
START = (1, (0, 0, 0))
END_A = (1, (1, 0, 1))
END_B = (2, (1, 0, 1))


def told_run(land, a, b):
    """least_run as [9] tells it, deed by deed."""
    ((on_the_way, _),) = all_ways(land.many, land.roads, a[0], b[0])
    beside = {x: sorted(p + q - x for p, q, _ in land.roads if x in (p, q)) for x in range(land.many)}

    def beyond(y, x):
        return {z for z in range(land.many) for passed, _ in all_ways(land.many, land.roads, x, z) if y in passed}

    def at_a_place(x, entered):
        deeds, table, q = [], all_apart(land.lamps[x].many, land.lamps[x].roads), b[1][x]
        p = a[1][x]
        while p != q:
            ahead = [(s + t - p, length) for s, t, length in land.lamps[x].roads if p in (s, t)]
            p = min(r for r, length in ahead if length + table[r, q] == table[p, q])
            deeds.append(("turn", p))
        for y in beside[x]:
            if y not in on_the_way and y != entered and any(a[1][z] != b[1][z] for z in beyond(y, x)):
                deeds += [("go", y)] + at_a_place(y, x) + [("go", x)]
        return deeds

    run = []
    for place in on_the_way:
        run += [("go", place)] + at_a_place(place, None)
    return tuple(run[1:])


class LeastRunTest(Case):
    def test_examples(self):
        self.same(least_run(LINE, START, END_A),
                  (("go", 0), ("turn", 1), ("go", 1), ("go", 2), ("turn", 1), ("go", 1)))
        self.same(least_run(LINE, START, END_B), (("go", 0), ("turn", 1), ("go", 1), ("go", 2), ("turn", 1)))
        spot = made_land(1, (), (UNLIKE,))
        self.same(least_run(spot, (0, (0,)), (0, (3,))), (("turn", 1), ("turn", 2), ("turn", 3)))

    def test_ordinary(self):
        # 3 - 4 - 6, with 2 at 3, 5 alone, 8 behind 7 at 6
        self.same(least_run(TREE, (3, ZERO), (6, (0, 0, 2, 1, 0, 0, 1, 0, 2, 0))), (
            ("turn", 1), ("go", 2), ("turn", 1), ("turn", 2), ("go", 3), ("go", 4), ("go", 6), ("turn", 1),
            ("go", 7), ("go", 8), ("turn", 1), ("turn", 2), ("go", 7), ("go", 6)))
        # only going
        self.same(least_run(TREE, (0, ZERO), (5, ZERO)), (("go", 3), ("go", 4), ("go", 5)))

    def test_a_lamp_is_set_when_the_walker_first_comes_to_it(self):
        self.same(least_run(LINE, START, (1, (1, 1, 1))),
                  (("turn", 1), ("go", 0), ("turn", 1), ("go", 1), ("go", 2), ("turn", 1), ("go", 1)))
        self.same(least_run(LINE, (0, (0, 0, 0)), (0, (0, 1, 1))),
                  (("go", 1), ("turn", 1), ("go", 2), ("turn", 1), ("go", 1), ("go", 0)))

    def test_the_least_of_several_next_positions(self):
        spot = made_land(1, (), (wheel_web(4, 7),))
        self.same(least_run(spot, (0, (0,)), (0, (2,))), (("turn", 1), ("turn", 2)))
        self.same(least_run(spot, (0, (3,)), (0, (1,))), (("turn", 0), ("turn", 1)))
        many = made_land(1, (), (MANY_WAYS,))
        self.same(least_run(many, (0, (0,)), (0, (5,))), (("turn", 1), ("turn", 2), ("turn", 4), ("turn", 5)))

    def test_branches_ascending_below_and_above(self):
        # 2 is tied to 0, 1 and 3
        land = made_land(4, ((0, 2, 9), (1, 2, 1), (2, 3, 5)), (pair_web(1), pair_web(1), alone(), pair_web(1)))
        self.same(least_run(land, (2, (0, 0, 0, 0)), (2, (1, 1, 0, 1))), (
            ("go", 0), ("turn", 1), ("go", 2), ("go", 1), ("turn", 1), ("go", 2), ("go", 3), ("turn", 1), ("go", 2)))
        self.same(least_run(land, (3, (0, 0, 0, 0)), (1, (1, 0, 0, 0))),
                  (("go", 2), ("go", 0), ("turn", 1), ("go", 2), ("go", 1)))

    def test_a_state_and_itself(self):
        for land, state in ((SPOT, (0, (0,))), (LINE, (2, (0, 1, 1))), (TREE, (4, ZERO)), (WIDE, (3, (5,) * 10))):
            self.same(least_run(land, state, state), ())

    def test_as_told_and_among_all_least_runs(self):
        chance = random.Random(94)
        for land in some_lands(chance, 60, most=4, lamps=SMALL_WEBS):
            a = some_state(chance, land)
            b = some_end(chance, land, a)
            run = least_run(land, a, b)
            self.same(run, told_run(land, a, b))
            left = least_costs(land, b)
            if least_runs_many(land, left, a, {}) <= 3000:
                self.assertIn(run, least_runs(land, left, a))

    def test_as_told_on_greater_lands(self):
        chance = random.Random(95)
        for land in some_lands(chance, 60):
            a = some_state(chance, land)
            b = some_end(chance, land, a)
            self.same(least_run(land, a, b), told_run(land, a, b))
            self.same(run_right(land, a, least_run(land, a, b), b, price(land, a, b)), True)

    def test_quick(self):
        for land in (WIDE, LONG, BUSHY):
            a, b = (4, ZERO), (6, (5,) * 10)
            run = self.quick(1, least_run, land, a, b)
            self.same(run, told_run(land, a, b))
            self.same(run_right(land, a, run, b, price(land, a, b)), True)
            self.same(least_run(land, a, (4, (4,) * 10)), told_run(land, a, (4, (4,) * 10)))


class LesseningTest(Case):
    def test_examples(self):
        self.same(lessening(LINE, START, END_A), (("go", 0), ("go", 2)))
        self.same(lessening(LINE, START, END_B), (("go", 0),))

    def test_ordinary(self):
        self.same(lessening(LINE, START, (1, (1, 1, 1))), (("go", 0), ("go", 2), ("turn", 1)))
        self.same(lessening(LINE, START, (1, (0, 1, 0))), (("turn", 1),))
        self.same(lessening(LINE, START, (2, (0, 1, 0))), (("turn", 1),))
        self.same(lessening(LINE, START, (2, (0, 0, 1))), (("go", 2),))
        self.same(lessening(LINE, (0, (0, 0, 0)), (2, (1, 0, 0))), (("turn", 1),))
        self.same(lessening(LINE, (0, (1, 0, 0)), (2, (1, 0, 0))), (("go", 1),))

    def test_several_next_positions(self):
        spot = made_land(1, (), (UNLIKE,))
        self.same(lessening(spot, (0, (0,)), (0, (3,))), (("turn", 1), ("turn", 3)))
        self.same(lessening(spot, (0, (1,)), (0, (3,))), (("turn", 2),))

    def test_a_state_and_itself(self):
        for land, state in ((SPOT, (0, (0,))), (LINE, (2, (0, 1, 1))), (WIDE, (3, (5,) * 10))):
            self.same(lessening(land, state, state), ())

    def test_by_search(self):
        chance = random.Random(96)
        lands = [SPOT, WEE, LINE] + some_lands(chance, 20, most=4, lamps=SMALL_WEBS) + some_lands(chance, 5, most=3)
        for land in lands:
            b = some_state(chance, land)
            left = least_costs(land, b)
            for a in all_states(land):
                self.same(lessening(land, a, b), tuple(deed for deed, _, _ in least_deeds(land, left, a)))

    def test_quick(self):
        for land in (WIDE, LONG, BUSHY):
            self.quick(1, lessening, land, (4, ZERO), (6, (5,) * 10))


class ErrorsTest(Case):
    def test_ring_comes_first(self):
        for call in (least_run, lessening):
            for a, b in ((START, START), ((3, (0, 0, 0)), START), (START, (0, (0,))), ((-1, ()), (-1, ()))):
                self.refuses(NotTree, 0, call, THREE, a, b)
            self.refuses(NotTree, 0, call, FOUR, (0, (0,) * 4), (0, (0,) * 4))

    def test_states_one_after_the_other(self):
        for call in (least_run, lessening):
            for bad in (START, (9, ()), (0, (7, 7))):
                self.refuses(BadPlace, 3, call, LINE, (3, (0, 0, 0)), bad)
                self.refuses(BadState, 2, call, LINE, (1, (0, 9)), bad)
                self.refuses(BadState, (1,), call, LINE, (1, (0, 2, 2)), bad)
            self.refuses(BadPlace, -1, call, LINE, START, (-1, (0, 0)))
            self.refuses(BadState, 4, call, LINE, START, (1, (9, 9, 9, 9)))
            self.refuses(BadState, (2,), call, LINE, START, (1, (0, 0, 2)))

    def test_the_land_stays_as_it_is(self):
        least_run(TREE, (0, ZERO), (9, ZERO))
        lessening(TREE, (0, ZERO), (9, ZERO))
        self.same(TREE.roads, TREE_ROADS)
