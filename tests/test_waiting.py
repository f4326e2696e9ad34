import random

from lampwalks.errors import BadDeed, BadPlace, BadState, BadWorth, NotTree, TooMany
from lampwalks.lands import made_land
from lampwalks.prices import price
from lampwalks.runs import run_right
from lampwalks.waiting import waiting, waiting_of, waiting_run
from lampwalks.webmakers import alone, line_web, pair_web
from tests.helpers import (
    BUSHY, FOUR, LINE, LONG, SMALL_WEBS, SPOT, THREE, TREE, TREE_ROADS, WIDE, Case, least_costs, least_runs,
    least_runs_many, some_end, some_lands, some_state, steps_from)

FAR = 10 ** 30
ZERO = (0,) * 10
START = (1, (0, 0, 0))
END_A = (1, (1, 0, 1))
RUN = (("go", 0), ("turn", 1), ("go", 1), ("go", 2), ("turn", 1), ("go", 1))
LONG_RUN = (("go", 0), ("go", 1)) * 1000


def weighed(land, a, run, weights):
    """The sum of weight times price spent up to the last turn, over the lamps that differ, deed by deed."""
    state, spent, waits = a, 0, {}
    for deed in run:
        ((length, then),) = [(length, then) for told, length, then in steps_from(land, state) if told == deed]
        spent += length
        if deed[0] == "turn":
            waits[state[0]] = weights[state[0]] * spent
        state = then
    return sum(wait for x, wait in waits.items() if a[1][x] != state[1][x])


def some_weights(chance, many):
    """Drawn weights; alike ones, 0 and 1000 are not rare."""
    most = chance.choice((0, 1, 2, 5, 1000))
    return tuple(chance.choice((0, 1, most, chance.randint(0, most), 1000)) for _ in range(many))


class WaitingTest(Case):
    def test_example(self):
        self.same(waiting(LINE, START, END_A, (1, 0, 3)), 11)
        self.same(waiting_run(LINE, START, END_A, (1, 0, 3)), RUN[3:] + RUN[:3])
        self.same(waiting_of(LINE, START, RUN[3:] + RUN[:3], (1, 0, 3)), 11)
        self.same(waiting_of(LINE, START, RUN, (1, 0, 3)), 2 + 3 * 5)

    def test_the_own_lamp_is_a_block(self):
        b = (1, (1, 1, 1))
        # the own lamp at 1, then 2 at 3, then 0 at 6
        self.same(waiting(LINE, START, b, (1, 1, 2)), 1 + 2 * 3 + 6)
        # lamp 2 at 2, then the own one at 4, then 0 at 6
        self.same(waiting(LINE, START, b, (1, 1, 100)), 200 + 4 + 6)
        # without weight it comes last, and without it there is no wait
        self.same(waiting(LINE, START, b, (1, 0, 2)), 2 * 2 + 5)

    def test_weights_all_0_and_all_alike(self):
        b = (1, (1, 1, 1))
        self.same(waiting(LINE, START, b, (0, 0, 0)), 0)
        self.same(waiting(LINE, START, b, (1, 1, 1)), 1 + 3 + 6)
        self.same(waiting(LINE, START, b, (1000, 1000, 1000)), 10000)

    def test_on_the_way_there_is_an_order_of_places(self):
        # the lamp of 0 comes first, however little it weighs
        self.same(waiting(LINE, (0, (0, 0, 0)), (2, (1, 0, 1)), (0, 0, 1000)), 1000 * 4)
        self.same(waiting(LINE, (0, (0, 0, 0)), (2, (1, 0, 1)), (2, 7, 3)), 2 + 3 * 4)

    def test_only_changed_lamps_weigh(self):
        self.same(waiting(LINE, START, (1, (1, 0, 0)), (2, 1000, 1000)), 4)
        self.same(waiting(LINE, START, (2, (0, 0, 0)), (1000, 1000, 1000)), 0)
        self.same(waiting(LINE, START, START, (1000, 1000, 1000)), 0)
        self.same(waiting(SPOT, (0, (0,)), (0, (0,)), (1000,)), 0)
        self.same(waiting_run(LINE, START, START, (1, 2, 3)), ())
        self.same(waiting_run(SPOT, (0, (0,)), (0, (0,)), (0,)), ())

    def test_a_branch_weighs_as_all_its_lamps(self):
        # 0 - 1 - 2 and 0 - 3: cost over weight is 6 / 4 for the one branch and 5 / 3 for the other one
        land = made_land(4, ((0, 1, 1), (0, 3, 2), (1, 2, 1)), (alone(), pair_web(1), pair_web(1), pair_web(1)))
        a, b = (0, (0, 0, 0, 0)), (0, (0, 1, 1, 1))
        # 1 at 2, 2 at 4, back at 6, 3 at 9
        self.same(waiting(land, a, b, (0, 1, 3, 3)), 2 + 12 + 27)
        # 3 at 3, back at 5, then 1 at 7 and 2 at 9; weights 2 and 1 within a branch of cost 6
        self.same(waiting(land, a, b, (0, 2, 1, 3)), 9 + 14 + 9)

    def test_against_all_least_runs(self):
        chance = random.Random(161)
        for land in some_lands(chance, 150, most=5, lamps=SMALL_WEBS[1:5]):
            a = some_state(chance, land)
            b = some_end(chance, land, a)
            left = least_costs(land, b)
            if least_runs_many(land, left, a, {}) <= 1000:
                runs = least_runs(land, left, a)
                weights = some_weights(chance, land.many)
                least = min(weighed(land, a, run, weights) for run in runs)
                self.same(waiting(land, a, b, weights), least)
                run = waiting_run(land, a, b, weights)
                self.assertIn(run, runs)
                self.same(weighed(land, a, run, weights), least)

    def test_what_is_not_changed_does_not_weigh_in_a_branch(self):
        # 1 - 2 and 3 hang on 0; the lamp of 1 weighs much and stays as it is
        land = made_land(4, ((0, 1, 1), (0, 3, 1), (1, 2, 1)), (alone(), pair_web(1), pair_web(1), pair_web(1)))
        a, b = (0, (0, 0, 0, 0)), (0, (0, 0, 1, 1))
        # 3 at 2, back at 3, 2 at 6: 2 * 1 + 6 * 1 instead of 3 * 1 + 7 * 1
        self.same(waiting(land, a, b, (1000, 1000, 1, 1)), 8)
        self.same(waiting(land, a, b, (1000, 0, 3, 1)), 9 + 7)

    def test_great_weights_that_are_nearly_alike(self):
        self.same(waiting(LINE, START, END_A, (999, 0, 1000)), 2 * 1000 + 5 * 999)
        self.same(waiting(LINE, START, END_A, (1000, 0, 999)), 2 * 1000 + 5 * 999)
        # 3 / 1000, 1 / 333, 3 / 998
        self.same(waiting(LINE, START, (1, (1, 1, 1)), (998, 333, 1000)), 2 * 1000 + 4 * 333 + 6 * 998)

    def test_small_weights_of_several_branches(self):
        # lamps of the costs 1 to 9 on short roads, so that the order of cost over weight is hard to guess
        chance = random.Random(164)
        for _ in range(120):
            many = chance.randint(3, 6)
            lamps = tuple(pair_web(chance.randint(1, 9)) for _ in range(many))
            (land,) = some_lands(chance, 1, most=many, lamps=lamps)
            land = made_land(land.many, tuple((x, y, 1 + length // 30) for x, y, length in land.roads), land.lamps)
            a = (chance.randrange(land.many), (0,) * land.many)
            b = (a[0], tuple(chance.choice((0, 1, 1, 1)) for _ in range(land.many)))
            weights = tuple(chance.choice((0, 1, 1, 2, 3, 4, 7)) for _ in range(land.many))
            runs = least_runs(land, least_costs(land, b), a)
            least = min(weighed(land, a, run, weights) for run in runs)
            self.same(waiting(land, a, b, weights), least)
            self.same(weighed(land, a, waiting_run(land, a, b, weights), weights), least)

    def test_quick_with_ten_places(self):
        chance = random.Random(162)
        for land in (WIDE, LONG, BUSHY):
            for weights in ((1000,) * 10, ZERO, tuple(range(991, 1001)), some_weights(chance, 10)):
                for a, b in (((4, ZERO), (6, (5,) * 10)), ((0, ZERO), (0, (4,) * 10))):
                    least = self.quick(1, waiting, land, a, b, weights)
                    run = self.quick(1, waiting_run, land, a, b, weights)
                    self.same(weighed(land, a, run, weights), least)
                    self.same(run_right(land, a, run, b, price(land, a, b)), True)

    def test_a_star_by_cost_over_weight(self):
        # nine branches of the cost 2 * x + 5, all with the weight 1: the nearest one first
        weights = (0,) + (1,) * 9
        spent, waits = 0, 0
        for x in range(1, 10):
            waits += spent + x + 5
            spent += 2 * x + 5
        self.same(waiting(WIDE, (0, ZERO), (0, (0,) + (5,) * 9), weights), waits)


class WaitingOfTest(Case):
    def test_ordinary(self):
        self.same(waiting_of(LINE, START, RUN, (1, 1, 1)), 2 + 5)
        self.same(waiting_of(LINE, START, RUN[:2], (5, 6, 7)), 5 * 2)
        self.same(waiting_of(LINE, START, (), (5, 6, 7)), 0)
        self.same(waiting_of(SPOT, (0, (0,)), (), (9,)), 0)

    def test_a_lamp_that_is_turned_back(self):
        there_and_back = (("turn", 1), ("turn", 0))
        self.same(waiting_of(LINE, START, there_and_back, (5, 6, 7)), 0)
        self.same(waiting_of(LINE, START, there_and_back + RUN, (5, 6, 7)), 5 * 4 + 7 * 7)
        # the last turn counts
        self.same(waiting_of(LINE, START, there_and_back + (("go", 0), ("go", 1), ("turn", 1)), (5, 6, 7)), 6 * 5)

    def test_a_run_that_ends_elsewhere(self):
        self.same(waiting_of(LINE, START, RUN + (("go", 0), ("turn", 0), ("go", 1)), (5, 6, 7)), 7 * 5)
        self.same(waiting_of(LINE, START, RUN + (("turn", 1),), (5, 6, 7)), 5 * 2 + 7 * 5 + 6 * 7)

    def test_several_turns_of_one_lamp(self):
        land = made_land(1, (), (line_web(3, 4),))
        self.same(waiting_of(land, (0, (0,)), (("turn", 1), ("turn", 2)), (3,)), 24)
        self.same(waiting_of(land, (0, (0,)), (("turn", 1), ("turn", 2), ("turn", 1)), (3,)), 36)

    def test_2000_deeds(self):
        self.same(waiting_of(LINE, START, (("turn", 1),) + LONG_RUN[:1999], (5, 6, 7)), 6)
        self.same(waiting_of(LINE, START, LONG_RUN[:1998] + (("go", 0), ("turn", 1)), (5, 6, 7)), 5 * 2000)

    def test_drawn_runs(self):
        chance = random.Random(163)
        for land in some_lands(chance, 60, most=5):
            a = state = some_state(chance, land)
            run = ()
            while len(run) < 40 and steps_from(land, state):
                deed, _, state = chance.choice(steps_from(land, state))
                run += (deed,)
            weights = some_weights(chance, land.many)
            self.same(waiting_of(land, a, run, weights), weighed(land, a, run, weights))


class ErrorsTest(Case):
    WEIGHTS = ((1, 2, 3), (), (1, 2), (0, -1, 0))

    def test_ring_comes_first(self):
        for weights in self.WEIGHTS:
            for a, b in ((START, START), ((3, (0, 0, 0)), START), (START, (0, (0,))), ((-1, ()), (-1, ()))):
                for call in (waiting, waiting_run):
                    self.refuses(NotTree, 0, call, THREE, a, b, weights)
                for run in ((), ("x",), LONG_RUN * 2):
                    self.refuses(NotTree, 0, waiting_of, THREE, a, run, weights)
            self.refuses(NotTree, 0, waiting, FOUR, (0, (0,) * 4), (0, (0,) * 4), weights)

    def test_states_one_after_the_other(self):
        for weights in self.WEIGHTS:
            for call in (waiting, waiting_run):
                for bad in (START, (9, ()), (0, (7, 7))):
                    self.refuses(BadPlace, 3, call, LINE, (3, (0, 0, 0)), bad, weights)
                    self.refuses(BadState, 2, call, LINE, (1, (0, 9)), bad, weights)
                    self.refuses(BadState, (1,), call, LINE, (1, (0, 2, 2)), bad, weights)
                self.refuses(BadPlace, -1, call, LINE, START, (-1, (0, 0)), weights)
                self.refuses(BadState, 4, call, LINE, START, (1, (9, 9, 9, 9)), weights)
                self.refuses(BadState, (2,), call, LINE, START, (1, (0, 0, 2)), weights)

    def test_the_run(self):
        for weights in self.WEIGHTS:
            for run in ((), ("x",), LONG_RUN * 2):
                self.refuses(BadPlace, 3, waiting_of, LINE, (3, (0, 0, 0)), run, weights)
                self.refuses(BadState, 2, waiting_of, LINE, (1, (0, 9)), run, weights)
                self.refuses(BadState, (1,), waiting_of, LINE, (1, (0, 2, 2)), run, weights)
            self.refuses(TooMany, 2001, waiting_of, LINE, START, LONG_RUN + (("go", 0),), weights)
            self.refuses(TooMany, 2001, waiting_of, LINE, START, ("x",) + LONG_RUN, weights)
            self.refuses(BadDeed, (0, 0), waiting_of, LINE, START, ("x",) + RUN, weights)
            self.refuses(BadDeed, (2, 1), waiting_of, LINE, START, RUN[:2] + (("go", 3),), weights)
            self.refuses(BadDeed, (6, 2), waiting_of, LINE, START, RUN + (("turn", 0),), weights)

    def check_weights(self, kind, what, land, a, b, weights):
        self.refuses(kind, what, waiting, land, a, b, weights)
        self.refuses(kind, what, waiting_run, land, a, b, weights)
        self.refuses(kind, what, waiting_of, land, a, (), weights)

    def test_how_many_weights(self):
        for many in (0, 1, 2, 4, 10):
            self.check_weights(BadWorth, many, LINE, START, END_A, (1,) * many)
            self.check_weights(BadWorth, many, LINE, START, END_A, (-1,) * many)
        self.check_weights(BadWorth, 0, SPOT, (0, (0,)), (0, (0,)), ())
        self.check_weights(BadWorth, 2, SPOT, (0, (0,)), (0, (0,)), (0, 0))

    def test_weights_out_of_range(self):
        for bad in (-1, 1001, FAR, -FAR):
            self.check_weights(BadWorth, (0,), LINE, START, END_A, (bad, 0, 0))
            self.check_weights(BadWorth, (1,), LINE, START, END_A, (0, bad, bad))
            self.check_weights(BadWorth, (2,), LINE, START, START, (0, 1000, bad))
            self.check_weights(BadWorth, (0,), SPOT, (0, (0,)), (0, (0,)), (bad,))

    def test_the_land_stays_as_it_is(self):
        waiting(TREE, (0, ZERO), (9, ZERO), ZERO)
        waiting_run(TREE, (0, ZERO), (9, ZERO), ZERO)
        waiting_of(TREE, (0, ZERO), (("go", 3),), ZERO)
        self.same(TREE.roads, TREE_ROADS)
