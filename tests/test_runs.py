import random

from lampwalks.deeds import cost, offers
from lampwalks.done import done
from lampwalks.errors import BadDeed, BadPlace, BadState, TooMany
from lampwalks.runs import run_cost, run_right, turned_run, walked
from tests.helpers import (
    LINE, ODD, RINGED, RINGED_ROADS, SPOT, THREE, TREE, TREE_ROADS, WEE, Case, doubled, nested, some_lands,
    some_state)

FAR = 10 ** 30
ZERO = (0,) * 10
START = (1, (0, 0, 0))
END = (1, (1, 0, 1))
RUN = (("go", 0), ("turn", 1), ("go", 1), ("go", 2), ("turn", 1), ("go", 1))

TREE_RUN = (("go", 4), ("go", 6), ("go", 7), ("turn", 3), ("turn", 2), ("go", 8), ("turn", 1))
TREE_END = (8, (0, 0, 0, 0, 0, 0, 0, 2, 1, 0))

# to and fro on the road 0 - 1
LONG = (("go", 0), ("go", 1)) * 1000


class WalkedTest(Case):
    def test_ordinary(self):
        self.same(walked(LINE, START, RUN), END)
        self.same(walked(LINE, START, RUN[:2]), (0, (1, 0, 0)))
        self.same(walked(TREE, (3, ZERO), TREE_RUN), TREE_END)
        self.same(walked(THREE, (0, (0, 0, 0)), (("go", 2), ("go", 1), ("turn", 1), ("go", 0))), (0, (0, 1, 0)))

    def test_no_deeds(self):
        self.same(walked(LINE, START, ()), START)
        self.same(walked(SPOT, (0, (0,)), ()), (0, (0,)))

    def test_a_deed_may_be_taken_back(self):
        self.same(walked(LINE, START, (("turn", 1), ("turn", 0), ("turn", 1))), (1, (0, 1, 0)))

    def test_2000_deeds(self):
        self.assertEqual(len(LONG), 2000)
        self.same(walked(LINE, START, LONG), START)


class RunCostTest(Case):
    def test_ordinary(self):
        self.same(run_cost(LINE, START, RUN), 6)
        self.same(run_cost(LINE, START, RUN[:3]), 3)
        # 7 + 100 + 3 for going, 3 + 1 for turning, 2 for going, 1 for turning
        self.same(run_cost(TREE, (3, ZERO), TREE_RUN), 117)
        self.same(run_cost(THREE, (0, (0, 0, 0)), (("go", 2), ("go", 1), ("turn", 1), ("go", 0))), 8)

    def test_no_deeds(self):
        self.same(run_cost(LINE, START, ()), 0)

    def test_2000_deeds(self):
        self.same(run_cost(LINE, START, LONG), 2000)
        self.same(run_cost(TREE, (6, ZERO), (("go", 4), ("go", 6)) * 1000), 200000)


class TurnedRunTest(Case):
    def test_ordinary(self):
        self.same(turned_run(LINE, START, RUN),
                  (("go", 2), ("turn", 0), ("go", 1), ("go", 0), ("turn", 0), ("go", 1)))
        self.same(turned_run(TREE, (3, ZERO), TREE_RUN),
                  (("turn", 0), ("go", 7), ("turn", 3), ("turn", 0), ("go", 6), ("go", 4), ("go", 3)))
        self.same(turned_run(THREE, (0, (0, 0, 0)), (("go", 2), ("go", 1), ("turn", 1), ("go", 0))),
                  (("go", 1), ("turn", 0), ("go", 2), ("go", 0)))

    def test_no_deeds(self):
        self.same(turned_run(LINE, START, ()), ())

    def test_2000_deeds(self):
        self.same(turned_run(LINE, START, LONG), LONG)
        self.same(turned_run(LINE, (0, (0, 0, 0)), (("go", 1), ("turn", 1)) + LONG[:1998]),
                  LONG[:1998] + (("turn", 0), ("go", 0)))


class RunErrorsTest(Case):
    def check(self, kind, what, land, state, run):
        for call in (walked, run_cost, turned_run):
            self.refuses(kind, what, call, land, state, run)

    def test_the_state(self):
        for run in ((), RUN, ("x",), LONG + (("go", 0),)):
            self.check(BadPlace, 3, LINE, (3, (0, 0, 0)), run)
            self.check(BadPlace, -1, LINE, (-1, ()), run)
            self.check(BadState, 4, LINE, (0, (0, 0, 0, 9)), run)
            self.check(BadState, (0,), LINE, (0, (2, 0, -1)), run)

    def test_too_many_deeds(self):
        self.check(TooMany, 2001, LINE, START, LONG + (("go", 0),))
        self.check(TooMany, 2001, LINE, START, ("x",) + LONG)
        self.check(TooMany, 2002, RINGED, (0, (0,) * 8), ((),) * 2002)
        self.check(BadDeed, (1999, 0), LINE, START, LONG[:1999] + ("x",))

    def test_deeds_that_are_none(self):
        for odd in ODD:
            self.check(BadDeed, (0, 0), LINE, START, (odd,))
            self.check(BadDeed, (2, 0), LINE, START, (("go", 0), ("turn", 1), odd, odd))
        self.check(BadDeed, (6, 0), LINE, START, RUN + (("go", "1"),))

    def test_deeds_that_are_not_possible_where_they_stand(self):
        self.check(BadDeed, (0, 1), LINE, START, (("go", 3),))
        self.check(BadDeed, (0, 2), LINE, START, (("go", 1),))
        self.check(BadDeed, (1, 2), LINE, START, (("go", 0), ("go", 2)))
        self.check(BadDeed, (1, 2), LINE, START, (("turn", 1), ("turn", 1)))
        self.check(BadDeed, (1, 1), LINE, START, (("turn", 1), ("turn", 2), "x"))
        self.check(BadDeed, (2, 1), LINE, START, (("go", 0), ("turn", 1), ("go", -FAR), ("go", 5)))
        self.check(BadDeed, (1, 1), WEE, (1, (0, 0)), (("go", 0), ("turn", 1)))
        self.check(BadDeed, (3, 2), LINE, START, RUN[:3] + (("go", 1), ("go", 99)))

    def test_the_first_one_is_told(self):
        self.check(BadDeed, (0, 2), LINE, START, (("go", 1), ("go", 9), "x"))
        self.check(BadDeed, (0, 1), LINE, START, (("go", 9), "x", ("go", 1)))


class ThereAndBackTest(Case):
    def test_drawn_runs(self):
        chance = random.Random(51)
        for land in some_lands(chance, 25) + some_lands(chance, 25, ring=True):
            start = state = some_state(chance, land)
            run, spent = (), 0
            while len(run) < 30 and offers(land, state):
                deed = chance.choice(offers(land, state))
                spent += cost(land, state, deed)
                state = done(land, state, deed)
                run += (deed,)
            back = turned_run(land, start, run)
            self.same(walked(land, start, run), state)
            self.same(run_cost(land, start, run), spent)
            self.same(walked(land, state, back), start)
            self.same(run_cost(land, state, back), spent)
            self.same(turned_run(land, state, back), run)
            self.same(run_right(land, start, run, state, spent), True)
            self.same(run_right(land, state, back, start, spent), True)

    def test_what_is_handed_in_stays(self):
        run = RUN
        walked(LINE, START, run)
        run_cost(TREE, (3, ZERO), TREE_RUN)
        turned_run(RINGED, (0, (0,) * 8), (("go", 4), ("turn", 1)))
        run_right(LINE, START, run, END, 6)
        self.same(run, (("go", 0), ("turn", 1), ("go", 1), ("go", 2), ("turn", 1), ("go", 1)))
        self.same(START, (1, (0, 0, 0)))
        self.same(TREE.roads, TREE_ROADS)
        self.same(RINGED.roads, RINGED_ROADS)


class RunRightTest(Case):
    def test_right(self):
        self.same(run_right(LINE, START, RUN, END, 6), True)
        self.same(run_right(TREE, (3, ZERO), TREE_RUN, TREE_END, 117), True)
        self.same(run_right(THREE, (0, (0, 0, 0)), (("go", 2),), (2, (0, 0, 0)), 5), True)
        self.same(run_right(LINE, START, (), START, 0), True)
        self.same(run_right(SPOT, (0, (0,)), (), (0, (0,)), 0), True)

    def test_it_need_not_be_the_cheapest(self):
        self.same(run_right(LINE, START, (("turn", 1), ("turn", 0)) + RUN, END, 8), True)

    def test_wrong_price(self):
        for price in (5, 7, 0, -6, FAR, -FAR, "6", (6,), (), ""):
            self.same(run_right(LINE, START, RUN, END, price), False)
        self.same(run_right(LINE, START, (), START, 1), False)
        self.same(run_right(LINE, START, (), START, ()), False)
        self.same(run_right(LINE, START, (), START, ""), False)

    def test_wrong_end(self):
        for b in (START, (0, (1, 0, 1)), (2, (1, 0, 1)), (1, (1, 0, 0)), (1, (1, 1, 1))):
            self.same(run_right(LINE, START, RUN, b, 6), False)
        self.same(run_right(LINE, START, (), END, 0), False)

    def test_wrong_start(self):
        self.same(run_right(LINE, (0, (0, 0, 0)), RUN, END, 6), False)
        self.same(run_right(LINE, (1, (0, 0, 1)), RUN, END, 6), False)

    def test_deeds_that_are_refused(self):
        for bad in (("go", 0), ("go", 1), ("go", 3), ("go", -FAR), ("turn", 2), ("turn", -1)) + ODD:
            self.same(run_right(LINE, (0, (1, 0, 0)), (bad,), (0, (1, 0, 0)), 0), False)
            self.same(run_right(LINE, END, (("go", 0), ("go", 1), bad, bad), END, 2), False)

    def test_2000_deeds_and_more(self):
        self.same(run_right(LINE, START, LONG, START, 2000), True)
        self.same(run_right(LINE, START, LONG + (("go", 0),), (0, (0, 0, 0)), 2001), False)
        self.same(run_right(LINE, START, LONG + LONG, START, 4000), False)

    def test_values_of_every_kind(self):
        odd_values = ODD + (nested(100), doubled(16), tuple(range(99999)), ("go",) * 2001, (("go", 0),) * 3000)
        for odd in odd_values:
            self.same(run_right(LINE, odd, RUN, END, 6), False)
            self.same(run_right(LINE, START, odd, END, 6), False)
            self.same(run_right(LINE, START, RUN, odd, 6), False)
            self.same(run_right(LINE, START, RUN, END, odd), False)
            self.same(run_right(LINE, odd, odd, odd, odd), False)
            self.same(run_right(LINE, (odd, (0, 0, 0)), (), (odd, (0, 0, 0)), 0), odd in (0, 1))
            self.same(run_right(LINE, (0, (odd, 0, 0)), (), (0, (odd, 0, 0)), 0), odd in (0, 1))
            self.same(run_right(LINE, (0, odd), (), (0, odd), 0), False)
            self.same(run_right(RINGED, odd, (), odd, 0), False)

    def test_what_is_no_state_has_no_run(self):
        for bad in ((3, (0, 0, 0)), (-1, (0, 0, 0)), (0, (0, 0)), (0, (0, 0, 0, 0)), (0, (2, 0, 0)), (0, (0, 0, -1))):
            self.same(run_right(LINE, bad, (), bad, 0), False)

    def test_true_and_false_are_no_numbers(self):
        self.same(run_right(LINE, START, (("go", 0),), (0, (0, 0, 0)), True), False)
        self.same(run_right(LINE, START, (), START, False), False)
        self.same(run_right(LINE, START, (), (True, (0, 0, 0)), 0), False)
        self.same(run_right(LINE, START, (("go", False),), (0, (0, 0, 0)), 1), False)

    def test_runs_that_are_no_tuples(self):
        self.same(run_right(LINE, START, "", START, 0), False)
        self.same(run_right(LINE, START, 0, START, 0), False)
        self.same(run_right(LINE, START, ("go", 0), (0, (0, 0, 0)), 1), False)
