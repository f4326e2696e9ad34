import random

from lampwalks.errors import BadCount, BadPlace, BadState, NotTree
from lampwalks.lands import made_land
from lampwalks.leastruns import least_run
from lampwalks.nthruns import nth_run
from lampwalks.prices import price
from lampwalks.runcounts import runs_many
from lampwalks.runs import run_right
from tests.helpers import (
    BUSHY, FOUR, LINE, LONG, MANY_WAYS, SMALL_WEBS, SPOT, THREE, TREE, TREE_ROADS, UNLIKE, WIDE, Case, least_costs,
    least_runs, least_runs_many, some_end, some_lands, some_state)

FAR = 10 ** 30
ZERO = (0,) * 10
START = (1, (0, 0, 0))
END_A = (1, (1, 0, 1))
END_B = (2, (1, 0, 1))


class NthRunTest(Case):
    def test_example(self):
        self.same(nth_run(LINE, START, END_A, 0),
                  (("go", 0), ("turn", 1), ("go", 1), ("go", 2), ("turn", 1), ("go", 1)))
        self.same(nth_run(LINE, START, END_A, 1),
                  (("go", 2), ("turn", 1), ("go", 1), ("go", 0), ("turn", 1), ("go", 1)))

    def test_the_only_one(self):
        self.same(nth_run(LINE, START, END_B, 0), (("go", 0), ("turn", 1), ("go", 1), ("go", 2), ("turn", 1)))
        self.same(nth_run(TREE, (0, ZERO), (5, ZERO), 0), (("go", 3), ("go", 4), ("go", 5)))

    def test_runs_of_unlike_numbers_of_deeds(self):
        spot = made_land(1, (), (UNLIKE,))
        self.same(nth_run(spot, (0, (0,)), (0, (3,)), 0), (("turn", 1), ("turn", 2), ("turn", 3)))
        self.same(nth_run(spot, (0, (0,)), (0, (3,)), 1), (("turn", 3),))
        many = made_land(1, (), (MANY_WAYS,))
        self.same([nth_run(many, (0, (0,)), (0, (5,)), k) for k in range(4)], [
            (("turn", 1), ("turn", 2), ("turn", 4), ("turn", 5)), (("turn", 1), ("turn", 3), ("turn", 4), ("turn", 5)),
            (("turn", 2), ("turn", 4), ("turn", 5)), (("turn", 5),)])

    def test_going_comes_before_turning(self):
        b = (1, (1, 1, 1))
        self.same(nth_run(LINE, START, b, 0),
                  (("go", 0), ("turn", 1), ("go", 1), ("go", 2), ("turn", 1), ("go", 1), ("turn", 1)))
        self.same(nth_run(LINE, START, b, 5),
                  (("turn", 1), ("go", 2), ("turn", 1), ("go", 1), ("go", 0), ("turn", 1), ("go", 1)))

    def test_a_state_and_itself(self):
        for land, state in ((SPOT, (0, (0,))), (LINE, (2, (0, 1, 1))), (WIDE, (3, (5,) * 10))):
            self.same(nth_run(land, state, state, 0), ())

    def test_all_of_the_listed_runs(self):
        chance = random.Random(111)
        for land in some_lands(chance, 50, most=4, lamps=SMALL_WEBS):
            a = some_state(chance, land)
            b = some_end(chance, land, a)
            left = least_costs(land, b)
            if least_runs_many(land, left, a, {}) <= 300:
                runs = least_runs(land, left, a)
                self.same([nth_run(land, a, b, k) for k in range(len(runs))], runs)
                self.refuses(BadCount, len(runs), nth_run, land, a, b, len(runs))

    def test_some_of_many_listed_runs(self):
        chance = random.Random(112)
        for land in some_lands(chance, 20, most=4, lamps=SMALL_WEBS[3:]):
            a = some_state(chance, land)
            b = some_end(chance, land, a)
            left = least_costs(land, b)
            if least_runs_many(land, left, a, {}) <= 20000:
                runs = least_runs(land, left, a)
                for k in (0, len(runs) - 1, len(runs) // 2, chance.randrange(len(runs))):
                    self.same(nth_run(land, a, b, k), runs[k])

    def test_quick_with_ten_places(self):
        for land in (WIDE, LONG, BUSHY):
            for a, b in (((4, ZERO), (6, (5,) * 10)), ((0, ZERO), (0, (4,) * 10))):
                many = runs_many(land, a, b)
                numbers = sorted({0, 1 % many, many // 3, many - 1})
                runs = [self.quick(1, nth_run, land, a, b, k) for k in numbers]
                self.same(runs, sorted(runs))
                self.assertEqual(len(set(runs)), len(numbers))
                for run in runs:
                    self.same(run_right(land, a, run, b, price(land, a, b)), True)
                self.refuses(BadCount, many, nth_run, land, a, b, many)

    def test_the_first_one_where_nothing_can_be_chosen(self):
        a, b = (0, ZERO), (9, (5,) * 10)
        self.same(nth_run(LONG, a, b, 0), least_run(LONG, a, b))


class ErrorsTest(Case):
    def test_numbers_out_of_range(self):
        for k in (2, 3, -1, -2, FAR, -FAR):
            self.refuses(BadCount, k, nth_run, LINE, START, END_A, k)
        for k in (1, -1):
            self.refuses(BadCount, k, nth_run, LINE, START, START, k)
            self.refuses(BadCount, k, nth_run, SPOT, (0, (0,)), (0, (0,)), k)

    def test_ring_comes_first(self):
        for k in (0, -1, FAR):
            for a, b in ((START, START), ((3, (0, 0, 0)), START), (START, (0, (0,))), ((-1, ()), (-1, ()))):
                self.refuses(NotTree, 0, nth_run, THREE, a, b, k)
            self.refuses(NotTree, 0, nth_run, FOUR, (0, (0,) * 4), (0, (0,) * 4), k)

    def test_states_one_after_the_other(self):
        for k in (0, -1, FAR):
            for bad in (START, (9, ()), (0, (7, 7))):
                self.refuses(BadPlace, 3, nth_run, LINE, (3, (0, 0, 0)), bad, k)
                self.refuses(BadState, 2, nth_run, LINE, (1, (0, 9)), bad, k)
                self.refuses(BadState, (1,), nth_run, LINE, (1, (0, 2, 2)), bad, k)
            self.refuses(BadPlace, -1, nth_run, LINE, START, (-1, (0, 0)), k)
            self.refuses(BadState, 4, nth_run, LINE, START, (1, (9, 9, 9, 9)), k)
            self.refuses(BadState, (2,), nth_run, LINE, START, (1, (0, 0, 2)), k)

    def test_the_land_stays_as_it_is(self):
        nth_run(TREE, (0, ZERO), (9, ZERO), 0)
        self.same(TREE.roads, TREE_ROADS)
