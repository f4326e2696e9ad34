import random

from lampwalks.errors import BadPlace, BadRow, BadState, NotTree, TooMany
from lampwalks.lands import made_land
from lampwalks.nthruns import nth_run
from lampwalks.runcounts import runs_many
from lampwalks.runranks import run_rank
from tests.helpers import (
    BUSHY, FOUR, LINE, LONG, MANY_WAYS, ODD, SMALL_WEBS, SPOT, THREE, TREE, TREE_ROADS, UNLIKE, WIDE, Case, doubled,
    least_costs, least_runs, least_runs_many, nested, some_end, some_lands, some_state)

FAR = 10 ** 30
ZERO = (0,) * 10
START = (1, (0, 0, 0))
END_A = (1, (1, 0, 1))
END_B = (2, (1, 0, 1))
RUN = (("go", 0), ("turn", 1), ("go", 1), ("go", 2), ("turn", 1), ("go", 1))
OTHER = RUN[3:] + RUN[:3]


class RunRankTest(Case):
    def test_examples(self):
        self.same(run_rank(LINE, START, END_A, RUN), 0)
        self.same(run_rank(LINE, START, END_A, OTHER), 1)
        self.same(run_rank(LINE, START, END_B, RUN[:5]), 0)

    def test_runs_of_unlike_numbers_of_deeds(self):
        spot = made_land(1, (), (UNLIKE,))
        self.same(run_rank(spot, (0, (0,)), (0, (3,)), (("turn", 1), ("turn", 2), ("turn", 3))), 0)
        self.same(run_rank(spot, (0, (0,)), (0, (3,)), (("turn", 3),)), 1)
        many = made_land(1, (), (MANY_WAYS,))
        self.same(run_rank(many, (0, (0,)), (0, (5,)), (("turn", 5),)), 3)

    def test_a_state_and_itself(self):
        for land, state in ((SPOT, (0, (0,))), (LINE, (2, (0, 1, 1))), (WIDE, (3, (5,) * 10))):
            self.same(run_rank(land, state, state, ()), 0)

    def test_all_of_the_listed_runs(self):
        chance = random.Random(171)
        for land in some_lands(chance, 50, most=4, lamps=SMALL_WEBS):
            a = some_state(chance, land)
            b = some_end(chance, land, a)
            left = least_costs(land, b)
            if least_runs_many(land, left, a, {}) <= 300:
                for k, run in enumerate(least_runs(land, left, a)):
                    self.same(run_rank(land, a, b, run), k)

    def test_quick_with_ten_places(self):
        for land in (WIDE, LONG, BUSHY):
            for a, b in (((4, ZERO), (6, (5,) * 10)), ((0, ZERO), (0, (4,) * 10))):
                many = runs_many(land, a, b)
                for k in (0, many // 3, many - 1):
                    self.same(self.quick(2, run_rank, land, a, b, nth_run(land, a, b, k)), k)


class ErrorsTest(Case):
    def test_ring_comes_first(self):
        for run in ((), RUN, ("x",), RUN * 400):
            for a, b in ((START, START), ((3, (0, 0, 0)), START), (START, (0, (0,))), ((-1, ()), (-1, ()))):
                self.refuses(NotTree, 0, run_rank, THREE, a, b, run)
            self.refuses(NotTree, 0, run_rank, FOUR, (0, (0,) * 4), (0, (0,) * 4), run)

    def test_states_one_after_the_other(self):
        for run in ((), RUN, ("x",), RUN * 400):
            for bad in (START, (9, ()), (0, (7, 7))):
                self.refuses(BadPlace, 3, run_rank, LINE, (3, (0, 0, 0)), bad, run)
                self.refuses(BadState, 2, run_rank, LINE, (1, (0, 9)), bad, run)
                self.refuses(BadState, (1,), run_rank, LINE, (1, (0, 2, 2)), bad, run)
            self.refuses(BadPlace, -1, run_rank, LINE, START, (-1, (0, 0)), run)
            self.refuses(BadState, 4, run_rank, LINE, START, (1, (9, 9, 9, 9)), run)
            self.refuses(BadState, (2,), run_rank, LINE, START, (1, (0, 0, 2)), run)

    def test_too_many_entries(self):
        self.refuses(TooMany, 2001, run_rank, LINE, START, END_A, ("x",) * 2001)
        self.refuses(TooMany, 2001, run_rank, LINE, START, START, (("go", 0), ("go", 1)) * 1000 + ((),))
        self.refuses(TooMany, 2004, run_rank, LINE, START, END_A, RUN * 334)
        self.refuses(BadRow, 0, run_rank, LINE, START, END_A, ("x",) * 2000)
        self.refuses(BadRow, 6, run_rank, LINE, START, END_A, RUN * 333)

    def test_deeds_that_do_not_lessen(self):
        # possible, but not of a least run
        self.refuses(BadRow, 0, run_rank, LINE, START, END_A, (("turn", 1),) + RUN)
        self.refuses(BadRow, 0, run_rank, LINE, START, END_B, (("go", 2),) + RUN)
        self.refuses(BadRow, 1, run_rank, LINE, START, END_A, (("go", 0), ("go", 1)))
        self.refuses(BadRow, 3, run_rank, LINE, START, END_A, RUN[:3] + (("go", 0),))
        # not possible
        self.refuses(BadRow, 0, run_rank, LINE, START, END_A, (("go", 1),))
        self.refuses(BadRow, 2, run_rank, LINE, START, END_A, RUN[:2] + (("go", 3), ("go", 0)))
        self.refuses(BadRow, 2, run_rank, LINE, START, END_A, RUN[:2] + (("turn", -FAR),))

    def test_more_deeds_than_needed(self):
        self.refuses(BadRow, 6, run_rank, LINE, START, END_A, RUN + (("go", 0),))
        self.refuses(BadRow, 6, run_rank, LINE, START, END_A, RUN + ("x", ()))
        self.refuses(BadRow, 0, run_rank, LINE, START, START, (("go", 0), ("go", 1)))
        self.refuses(BadRow, 0, run_rank, SPOT, (0, (0,)), (0, (0,)), (("turn", 0),))

    def test_runs_that_end_too_early(self):
        for k in range(6):
            self.refuses(BadRow, k, run_rank, LINE, START, END_A, RUN[:k])
            self.refuses(BadRow, k, run_rank, LINE, START, END_A, OTHER[:k])

    def test_entries_of_every_kind(self):
        for odd in ODD + (nested(90), doubled(16), tuple(range(99999)), True, False, ("go", False), ("turn", True)):
            self.refuses(BadRow, 0, run_rank, LINE, START, END_A, (odd,) + RUN)
            self.refuses(BadRow, 1, run_rank, LINE, START, END_A, RUN[:1] + (odd,))
            self.refuses(BadRow, 6, run_rank, LINE, START, END_A, RUN + (odd,))
            self.refuses(BadRow, 0, run_rank, LINE, START, START, (odd, odd))

    def test_what_is_handed_in_stays(self):
        run = RUN
        run_rank(LINE, START, END_A, run)
        nth = nth_run(TREE, (0, ZERO), (9, ZERO), 0)
        self.same(run_rank(TREE, (0, ZERO), (9, ZERO), nth), 0)
        self.same(run, (("go", 0), ("turn", 1), ("go", 1), ("go", 2), ("turn", 1), ("go", 1)))
        self.same(TREE.roads, TREE_ROADS)
