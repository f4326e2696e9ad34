import fractions
import random

from lampwalks.errors import BadPlace, BadState, NotTree
from lampwalks.lands import made_land
from lampwalks.runcounts import pass_share, runs_many, steps_many
from lampwalks.webmakers import line_web, pair_web
from tests.helpers import (
    BUSHY, FOUR, LINE, LONG, MANY_WAYS, SMALL_WEBS, SPOT, THREE, TREE, TREE_ROADS, UNLIKE, WIDE, Case, all_states,
    least_costs, least_deeds, least_runs, least_runs_many, some_end, some_lands, some_state)

ZERO = (0,) * 10
START = (1, (0, 0, 0))
END_A = (1, (1, 0, 1))
END_B = (2, (1, 0, 1))


def counts_of(numbers):
    """The pairs (number, how often it stands there), ascending."""
    return tuple((number, numbers.count(number)) for number in sorted(set(numbers)))


class RunsManyTest(Case):
    def test_examples(self):
        self.same(runs_many(LINE, START, END_A), 2)
        self.same(runs_many(LINE, START, END_B), 1)
        spot = made_land(1, (), (UNLIKE,))
        self.same(runs_many(spot, (0, (0,)), (0, (3,))), 2)

    def test_ordinary(self):
        # at 1 two branches and one turn in any order
        self.same(runs_many(LINE, START, (1, (1, 1, 1))), 6)
        self.same(runs_many(LINE, START, (2, (1, 1, 1))), 2)
        # a star: 4 branches in any order
        star = made_land(5, tuple((0, x, x) for x in range(1, 5)), (line_web(3, 2),) + (pair_web(1),) * 4)
        self.same(runs_many(star, (0, (0,) * 5), (0, (0, 1, 1, 1, 1))), 24)
        # 2 turns and 4 branches, the turns one after the other
        self.same(runs_many(star, (0, (0,) * 5), (0, (2, 1, 1, 1, 1))), 720 // 2)
        # from 3 to 4, so 1 and 2 are branches at 0, and what is turned at 3 and 4 stands by itself
        self.same(runs_many(star, (3, (0,) * 5), (4, (1, 1, 1, 1, 1))), 6)

    def test_several_least_ways_of_unlike_lengths(self):
        spot = made_land(1, (), (MANY_WAYS,))
        self.same(runs_many(spot, (0, (0,)), (0, (4,))), 3)
        self.same(runs_many(spot, (0, (0,)), (0, (5,))), 4)
        # a lamp of 1 or 3 turns in the middle, with two branches: 2 * (choose(3, 2) + choose(5, 2))
        land = made_land(3, ((0, 1, 1), (1, 2, 1)), (pair_web(1), UNLIKE, pair_web(1)))
        self.same(runs_many(land, (1, (0, 0, 0)), (1, (1, 3, 1))), 2 * (3 + 10))

    def test_a_state_and_itself(self):
        for land, state in ((SPOT, (0, (0,))), (LINE, (2, (0, 1, 1))), (WIDE, (7, (5,) * 10)), (LONG, (0, ZERO))):
            self.same(runs_many(land, state, state), 1)

    def test_only_going(self):
        self.same(runs_many(TREE, (0, ZERO), (8, ZERO)), 1)

    def test_by_search(self):
        chance = random.Random(101)
        for land in some_lands(chance, 30, most=4, lamps=SMALL_WEBS) + some_lands(chance, 6, most=3):
            b = some_state(chance, land)
            left, known = least_costs(land, b), {}
            for a in all_states(land):
                self.same(runs_many(land, a, b), least_runs_many(land, left, a, known))

    def test_the_listed_runs(self):
        chance = random.Random(102)
        for land in some_lands(chance, 40, most=4, lamps=SMALL_WEBS):
            a = some_state(chance, land)
            b = some_end(chance, land, a)
            left = least_costs(land, b)
            if least_runs_many(land, left, a, {}) <= 3000:
                self.same(runs_many(land, a, b), len(least_runs(land, left, a)))

    def test_sums_over_the_first_deeds(self):
        # [11]: what holds
        chance = random.Random(103)
        for land in some_lands(chance, 12, most=4, lamps=SMALL_WEBS):
            a = some_state(chance, land)
            b = some_end(chance, land, a)
            if a != b:
                left = least_costs(land, b)
                parts = [runs_many(land, then, b) for _, _, then in least_deeds(land, left, a)]
                self.same(runs_many(land, a, b), sum(parts))

    def test_quick_with_ten_places(self):
        # 9 branches, of which each has 4 ways, and the own lamp with 1, 3 or 4 turns
        whole = 362880 * 4 ** 9 * (10 + 220 + 2 * 715)
        self.same(self.quick(1, runs_many, WIDE, (0, ZERO), (0, (5,) * 10)), whole)
        self.same(self.quick(1, runs_many, LONG, (0, ZERO), (9, (5,) * 10)), 1)
        # at each place but the last one 5 turns and one branch
        self.same(self.quick(1, runs_many, LONG, (0, ZERO), (0, (5,) * 10)), 6 ** 9)
        self.quick(1, runs_many, BUSHY, (4, ZERO), (6, (5,) * 10))


class StepsManyTest(Case):
    def test_examples(self):
        self.same(steps_many(LINE, START, END_A), ((6, 2),))
        self.same(steps_many(LINE, START, END_B), ((5, 1),))
        spot = made_land(1, (), (UNLIKE,))
        self.same(steps_many(spot, (0, (0,)), (0, (3,))), ((1, 1), (3, 1)))

    def test_several_lamps(self):
        spot = made_land(1, (), (MANY_WAYS,))
        self.same(steps_many(spot, (0, (0,)), (0, (4,))), ((2, 1), (3, 2)))
        # two lamps with 1 or 3 turns each, a road between them
        land = made_land(2, ((0, 1, 5),), (UNLIKE, UNLIKE))
        self.same(steps_many(land, (0, (0, 0)), (1, (3, 3))), ((3, 1), (5, 2), (7, 1)))
        self.same(steps_many(land, (0, (0, 0)), (0, (0, 3))), ((3, 1), (5, 1)))
        # the branch stands before, between or behind the turns: choose(2, 1) with one turn, choose(4, 1) with three
        self.same(steps_many(land, (0, (0, 0)), (0, (3, 3))), ((4, 2), (6, 2 + 4), (8, 4)))

    def test_a_state_and_itself(self):
        for land, state in ((SPOT, (0, (0,))), (LINE, (2, (0, 1, 1))), (WIDE, (7, (5,) * 10))):
            self.same(steps_many(land, state, state), ((0, 1),))

    def test_only_going(self):
        self.same(steps_many(TREE, (0, ZERO), (8, ZERO)), ((5, 1),))

    def test_the_listed_runs(self):
        chance = random.Random(104)
        for land in some_lands(chance, 60, most=4, lamps=SMALL_WEBS):
            a = some_state(chance, land)
            b = some_end(chance, land, a)
            left = least_costs(land, b)
            if least_runs_many(land, left, a, {}) <= 3000:
                self.same(steps_many(land, a, b), counts_of([len(run) for run in least_runs(land, left, a)]))

    def test_quick_with_ten_places(self):
        for land in (WIDE, LONG, BUSHY):
            for b in ((6, (5,) * 10), (4, (4,) * 10)):
                pairs = self.quick(1, steps_many, land, (4, ZERO), b)
                self.same(sum(many for _, many in pairs), runs_many(land, (4, ZERO), b))
                self.same(pairs, tuple(sorted(pairs)))
                self.assertNotIn(0, [many for _, many in pairs])
        # 18 goings, and from 10 to 40 turns
        self.same([steps for steps, _ in steps_many(WIDE, (0, ZERO), (0, (5,) * 10))], [28] + list(range(30, 59)))


class PassShareTest(Case):
    def test_example(self):
        self.same(pass_share(LINE, START, (0, (0, 0, 0)), END_A), (1, 2))

    def test_ordinary(self):
        self.same(pass_share(LINE, START, (1, (1, 0, 0)), END_A), (1, 2))
        self.same(pass_share(LINE, START, (0, (1, 0, 0)), END_B), (1, 1))
        self.same(pass_share(LINE, START, (1, (0, 1, 0)), (1, (1, 1, 1))), (1, 3))
        self.same(pass_share(LINE, START, (0, (0, 0, 0)), (1, (1, 1, 1))), (1, 3))

    def test_both_ends_count(self):
        self.same(pass_share(LINE, START, START, END_A), (1, 1))
        self.same(pass_share(LINE, START, END_A, END_A), (1, 1))
        self.same(pass_share(SPOT, (0, (0,)), (0, (0,)), (0, (0,))), (1, 1))

    def test_what_is_not_between(self):
        self.same(pass_share(LINE, START, (1, (0, 1, 0)), END_A), (0, 1))
        self.same(pass_share(LINE, START, (2, (0, 0, 0)), END_B), (0, 1))
        self.same(pass_share(LINE, START, END_A, START), (0, 1))
        self.same(pass_share(SPOT, (0, (0,)), (0, (0,)), (0, (0,))), (1, 1))
        self.same(pass_share(LINE, START, (0, (0, 0, 0)), START), (0, 1))

    def test_the_listed_runs(self):
        chance = random.Random(105)
        for land in some_lands(chance, 40, most=3, lamps=SMALL_WEBS):
            a = some_state(chance, land)
            b = some_end(chance, land, a)
            left = least_costs(land, b)
            if least_runs_many(land, left, a, {}) <= 200:
                passed = [self.states_of(land, a, run) for run in least_runs(land, left, a)]
                for x in all_states(land):
                    whole = fractions.Fraction(sum(x in states for states in passed), len(passed))
                    self.same(pass_share(land, a, x, b), (whole.numerator, whole.denominator))

    def states_of(self, land, state, run):
        """The states that a run comes to, both ends among them."""
        found = [state]
        for word, x in run:
            place, row = found[-1]
            found.append((x, row) if word == "go" else (place, row[:place] + (x,) + row[place + 1:]))
        return found

    def test_ten_places(self):
        a, b = (0, ZERO), (0, (5,) * 10)
        first = (1, ZERO)
        self.same(self.quick(1, pass_share, WIDE, a, b, b), (1, 1))
        # what comes first is one of 9 branches or a turn of the own lamp
        share = fractions.Fraction(runs_many(WIDE, first, b), runs_many(WIDE, a, b))
        self.same(pass_share(WIDE, a, first, b), (share.numerator, share.denominator))
        self.same(pass_share(WIDE, a, (1, (1,) + ZERO[1:]), a), (0, 1))


class ErrorsTest(Case):
    def test_ring_comes_first(self):
        for a, b in ((START, START), ((3, (0, 0, 0)), START), (START, (0, (0,))), ((-1, ()), (-1, ()))):
            for call in (runs_many, steps_many):
                self.refuses(NotTree, 0, call, THREE, a, b)
            self.refuses(NotTree, 0, pass_share, THREE, a, b, a)
            self.refuses(NotTree, 0, pass_share, THREE, a, a, b)
        self.refuses(NotTree, 0, runs_many, FOUR, (0, (0,) * 4), (0, (0,) * 4))

    def test_states_one_after_the_other(self):
        for call in (runs_many, steps_many):
            for bad in (START, (9, ()), (0, (7, 7))):
                self.refuses(BadPlace, 3, call, LINE, (3, (0, 0, 0)), bad)
                self.refuses(BadState, 2, call, LINE, (1, (0, 9)), bad)
                self.refuses(BadState, (1,), call, LINE, (1, (0, 2, 2)), bad)
            self.refuses(BadPlace, -1, call, LINE, START, (-1, (0, 0)))
            self.refuses(BadState, 4, call, LINE, START, (1, (9, 9, 9, 9)))
            self.refuses(BadState, (2,), call, LINE, START, (1, (0, 0, 2)))

    def test_three_states_one_after_the_other(self):
        for one in (START, (9, ()), (0, (7, 7))):
            for other in (START, (8, ()), (0, (0, 7, 7))):
                self.refuses(BadPlace, 3, pass_share, LINE, (3, (0, 0, 0)), one, other)
                self.refuses(BadState, (0,), pass_share, LINE, (1, (2, 0, 3)), one, other)
            self.refuses(BadPlace, -1, pass_share, LINE, START, (-1, (0, 0, 0)), one)
            self.refuses(BadState, 0, pass_share, LINE, START, (1, ()), one)
            self.refuses(BadState, (1,), pass_share, LINE, START, (1, (0, 2, 0)), one)
        self.refuses(BadPlace, 3, pass_share, LINE, START, START, (3, (0, 0)))
        self.refuses(BadState, 2, pass_share, LINE, START, END_A, (1, (0, 0)))
        self.refuses(BadState, (2,), pass_share, LINE, START, END_B, (1, (0, 0, 2)))

    def test_the_land_stays_as_it_is(self):
        runs_many(TREE, (0, ZERO), (9, ZERO))
        steps_many(TREE, (0, ZERO), (9, ZERO))
        pass_share(TREE, (0, ZERO), (3, ZERO), (9, ZERO))
        self.same(TREE.roads, TREE_ROADS)
