import itertools
import random

from lampwalks.errors import BadPlace, BadState, NotTree, TooMany
from lampwalks.lands import made_land
from lampwalks.stages import stage_ends, stages
from lampwalks.webmakers import line_web, pair_web
from tests.helpers import (
    BUSHY, FOUR, LINE, LONG, SPOT, THREE, TREE, TREE_ROADS, WIDE, Case, least_costs, small_trees, some_row, some_state)

FAR = 10 ** 30
ZERO = (0,) * 10
START = (1, (0, 0, 0))
ROW = (1, 0, 1)


def listed(land, a, rows):
    """The least price and the first tuple of ends that has it, all tuples listed."""
    known = {}

    def price(one, two):
        if one not in known:
            known[one] = least_costs(land, one)
        return known[one][two]

    found = []
    for ends in itertools.product(range(land.many), repeat=len(rows)):
        states = [a] + list(zip(ends, rows))
        found.append((sum(price(one, two) for one, two in itertools.pairwise(states)), ends))
    return min(found)


class StagesTest(Case):
    def check(self, land, a, rows, price, ends):
        self.same(stages(land, a, rows), price)
        self.same(stage_ends(land, a, rows), ends)

    def test_of_the_document(self):
        self.check(LINE, START, (ROW, (0, 0, 0)), 9, (0, 2))

    def test_one_row(self):
        self.check(LINE, START, (ROW,), 5, (0,))
        self.check(LINE, START, ((0, 0, 0),), 0, (1,))
        self.check(LINE, START, ((0, 1, 0),), 1, (1,))

    def test_the_same_row_twice(self):
        self.check(LINE, START, (ROW, ROW), 5, (0, 0))
        # as well the walker may go on to the row before it is asked for again
        self.check(LINE, START, (ROW, ROW, (1, 0, 0), (1, 0, 0)), 6, (2, 2, 2, 2))
        self.check(LINE, START, (START[1],) * 20, 0, (1,) * 20)

    def test_not_the_nearest_end_first(self):
        # 0 - 1 - 2 - 3; after the lamps of 1 and 3 that of 1 is turned back
        land = made_land(4, ((0, 1, 1), (1, 2, 1), (2, 3, 1)), (pair_web(1),) * 4)
        rows = ((0, 1, 0, 1), (0, 0, 0, 1))
        # from 2 to 3 and 1 is 3, to 1 and 3 as well
        self.check(land, (2, (0,) * 4), rows, 2 + 3 + 1, (1, 1))
        rows = ((0, 1, 0, 1), (0, 1, 0, 0))
        self.check(land, (2, (0,) * 4), rows, 2 + 3 + 1, (3, 3))

    def test_one_place(self):
        land = made_land(1, (), (line_web(6, 2),))
        self.check(land, (0, (0,)), ((5,), (3,), (3,), (4,)), 2 * (5 + 2 + 0 + 1), (0,) * 4)
        self.check(SPOT, (0, (0,)), ((0,),) * 20, 0, (0,) * 20)

    def test_all_tuples_listed(self):
        chance = random.Random(231)
        for land in small_trees(chance, 60, 300):
            a = some_state(chance, land)
            rows = []
            while len(rows) < 4 and land.many ** (len(rows) + 1) <= 700:
                rows.append(some_row(chance, land, rows[-1] if rows and chance.random() < 0.8 else a[1]))
                self.check(land, a, tuple(rows), *listed(land, a, rows))

    def test_quick_with_ten_places(self):
        rows = tuple((k % 6,) * 10 for k in range(1, 21))
        for land in (WIDE, LONG, BUSHY):
            self.quick(2, stages, land, (4, ZERO), rows)
            self.assertEqual(len(self.quick(2, stage_ends, land, (4, ZERO), rows)), 20)
        # a line of 900, gone from 0 to 9 and back and so on; 20 turns of 100, but three from 5 to 0 and on to 1
        lamps = 10 * (17 * 100 + 3 * 500)
        self.same(stages(LONG, (0, ZERO), rows), 20 * 900 + lamps)
        self.same(stage_ends(LONG, (0, ZERO), rows), (9, 0) * 10)


class ErrorsTest(Case):
    STATES = (START, (3, (0, 0, 0)), (0, (0,)), (-1, ()))
    ROWS = ((), ((0, 0, 0),), ((0,),), ((-1, 0, 0), ()), (ROW,) * 21)

    def test_ring_comes_first(self):
        for call in (stages, stage_ends):
            for rows in self.ROWS:
                for a in self.STATES:
                    self.refuses(NotTree, 0, call, THREE, a, rows)
                    self.refuses(NotTree, 0, call, FOUR, a, rows)

    def test_then_the_state(self):
        for call in (stages, stage_ends):
            for rows in self.ROWS:
                self.refuses(BadPlace, 3, call, LINE, (3, (0, 0, 0)), rows)
                self.refuses(BadState, 2, call, LINE, (1, (0, 9)), rows)
                self.refuses(BadState, (1,), call, LINE, (1, (0, 2, 2)), rows)

    def test_then_how_many(self):
        for call in (stages, stage_ends):
            self.refuses(TooMany, 0, call, LINE, START, ())
            for many in (21, 22, 100):
                for row in (ROW, (), (-1, 0, 0)):
                    self.refuses(TooMany, many, call, LINE, START, (row,) * many)

    def test_then_row_by_row(self):
        for call in (stages, stage_ends):
            for before in ((), (ROW,), (ROW, (1, 1, 1))):
                for behind in ((), (ROW,), ((),), ((0, 0, 9),)):
                    for many in (0, 1, 2, 4, 10):
                        self.refuses(BadState, many, call, LINE, START, before + ((9,) * many,) + behind)
                    for bad in (-1, 2, FAR, -FAR):
                        self.refuses(BadState, (0,), call, LINE, START, before + ((bad, bad, 0),) + behind)
                        self.refuses(BadState, (1,), call, LINE, START, before + ((1, bad, bad),) + behind)
                        self.refuses(BadState, (2,), call, LINE, START, before + ((0, 1, bad),) + behind)
            self.refuses(BadState, (1,), call, LINE, START, (ROW,) * 19 + ((0, 2, 0),))

    def test_by_name(self):
        self.same(stages(land=LINE, a=START, rows=(ROW,)), 5)
        self.same(stage_ends(rows=(ROW,), a=START, land=LINE), (0,))

    def test_what_is_handed_in_stays(self):
        rows = ((0, 1) + ZERO[2:], ZERO)
        stages(TREE, (0, ZERO), rows)
        stage_ends(TREE, (0, ZERO), rows)
        self.same(rows, ((0, 1) + ZERO[2:], ZERO))
        self.same(TREE.roads, TREE_ROADS)
