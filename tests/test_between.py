import random

from lampwalks.between import between
from tests.helpers import (
    FOUR, LINE, ODD, RINGED, RINGED_ROADS, SMALL_WEBS, SPOT, THREE, TREE, TREE_ROADS, WIDE, Case, all_states, doubled,
    least_costs, least_runs, least_runs_many, nested, some_end, some_lands, some_state)

ZERO = (0,) * 10
START = (1, (0, 0, 0))
END_A = (1, (1, 0, 1))
END_B = (2, (1, 0, 1))


class BetweenTest(Case):
    def test_example_a(self):
        wanted = [x for x in all_states(LINE) if x[1] in ((0, 0, 0), (1, 0, 0), (0, 0, 1), (1, 0, 1))]
        self.assertEqual(len(wanted), 12)
        for x in all_states(LINE):
            self.same(between(LINE, START, x, END_A), x in wanted)

    def test_example_b(self):
        wanted = ((0, (0, 0, 0)), (0, (1, 0, 0)), (1, (0, 0, 0)), (1, (1, 0, 0)), (2, (1, 0, 0)), (2, (1, 0, 1)))
        for x in all_states(LINE):
            self.same(between(LINE, START, x, END_B), x in wanted)

    def test_both_ends_and_a_state_and_itself(self):
        for land, a, b in ((LINE, START, END_A), (TREE, (0, ZERO), (9, ZERO)), (FOUR, (0, (0,) * 4), (2, (1,) * 4)),
                           (SPOT, (0, (0,)), (0, (0,))), (WIDE, (3, ZERO), (3, (5,) * 10))):
            self.same(between(land, a, a, b), True)
            self.same(between(land, a, b, b), True)
            self.same(between(land, a, a, a), True)
            self.same(between(land, a, b, a), a == b)

    def test_ring(self):
        zero = (0, 0, 0, 0)
        # both ways round are least ones
        for x in range(4):
            self.same(between(FOUR, (0, zero), (x, zero), (2, zero)), True)
        self.same(between(FOUR, (0, zero), (2, zero), (1, zero)), False)
        self.same(between(THREE, (0, (0, 0, 0)), (1, (0, 0, 0)), (2, (0, 0, 0))), True)
        self.same(between(THREE, (0, (0, 0, 0)), (2, (0, 0, 0)), (1, (0, 0, 0))), False)

    def test_by_search(self):
        chance = random.Random(131)
        for land in (some_lands(chance, 15, most=3, lamps=SMALL_WEBS)
                     + some_lands(chance, 10, ring=True, most=4, lamps=SMALL_WEBS[:4])):
            a = some_state(chance, land)
            b = some_end(chance, land, a)
            gone, left = least_costs(land, a), least_costs(land, b)
            for x in all_states(land):
                self.same(between(land, a, x, b), gone[x] + left[x] == gone[b])

    def test_on_a_tree_some_least_run_comes_to_it(self):
        chance = random.Random(132)
        for land in some_lands(chance, 20, most=3, lamps=SMALL_WEBS):
            a = some_state(chance, land)
            b = some_end(chance, land, a)
            left = least_costs(land, b)
            if least_runs_many(land, left, a, {}) <= 100:
                passed = {a}
                for run in least_runs(land, left, a):
                    place, row = a
                    for word, x in run:
                        place, row = (x, row) if word == "go" else (place, row[:place] + (x,) + row[place + 1:])
                        passed.add((place, row))
                for x in all_states(land):
                    self.same(between(land, a, x, b), x in passed)


class JudgeTest(Case):
    """[0.2]: a judge raises nothing, whatever is handed in but for the land."""

    def test_what_is_no_state(self):
        bad_states = ((3, (0, 0, 0)), (-1, (0, 0, 0)), (0, (0, 0)), (0, (0, 0, 0, 0)), (0, (2, 0, 0)),
                      (0, (0, 0, -1)), (0, ()), (10 ** 30, (0, 0, 0)), (0, (10 ** 30, 0, 0)), (1, (0, 0, 0), 1), (1,))
        for bad in bad_states:
            for land in (LINE, THREE):
                self.same(between(land, bad, START, START), False)
                self.same(between(land, START, bad, START), False)
                self.same(between(land, START, START, bad), False)
                self.same(between(land, bad, bad, bad), False)

    def test_values_of_every_kind(self):
        for odd in ODD + (nested(90), doubled(16), tuple(range(99999)), "x" * 99999):
            for land in (LINE, THREE):
                self.same(between(land, odd, START, START), False)
                self.same(between(land, START, odd, START), False)
                self.same(between(land, START, START, odd), False)
                self.same(between(land, odd, odd, odd), False)
                self.same(between(land, (odd, (0, 0, 0)), (odd, (0, 0, 0)), (odd, (0, 0, 0))), odd in (0, 1))
                self.same(between(land, (1, (odd, 0, 0)), (1, (odd, 0, 0)), (1, (odd, 0, 0))), odd in (0, 1))
                self.same(between(land, (1, odd), (1, odd), (1, odd)), False)
            self.same(between(RINGED, odd, odd, odd), False)

    def test_true_and_false_are_no_numbers(self):
        self.same(between(LINE, START, (True, (0, 0, 0)), START), False)
        self.same(between(LINE, START, (1, (False, 0, 0)), START), False)

    def test_the_land_stays_as_it_is(self):
        between(TREE, (0, ZERO), (3, ZERO), (9, ZERO))
        between(RINGED, (0, (0,) * 8), (3, (0,) * 8), (7, (0,) * 8))
        self.same(TREE.roads, TREE_ROADS)
        self.same(RINGED.roads, RINGED_ROADS)
