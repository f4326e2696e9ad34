import random

from lampwalks.errors import BadPlace, BadState, NotTree
from lampwalks.freeends import free_pairs, free_price, open_ends, open_price, round_price
from lampwalks.lands import made_land
from lampwalks.webmakers import alone, line_web, pair_web
from tests.helpers import (
    BUSHY, FOUR, LINE, LONG, SPOT, THREE, TREE, TREE_ROADS, WIDE, Case, least_costs, small_trees, some_lands,
    some_row, some_state)

FAR = 10 ** 30
ZERO = (0,) * 10
ONES = (1,) * 10
START = (1, (0, 0, 0))


class OpenTest(Case):
    def check(self, land, a, row, price, ends, back):
        self.same(open_price(land, a, row), price)
        self.same(open_ends(land, a, row), ends)
        self.same(round_price(land, a, row), back)

    def test_of_the_document(self):
        self.check(LINE, START, (1, 0, 1), 5, (0, 2), 6)

    def test_the_same_row(self):
        for x in range(3):
            self.check(LINE, (x, (1, 0, 1)), (1, 0, 1), 0, (x,), 0)
        self.check(SPOT, (0, (0,)), (0,), 0, (0,), 0)
        self.check(TREE, (7, ZERO), ZERO, 0, (7,), 0)

    def test_one_place(self):
        land = made_land(1, (), (line_web(6, 9),))
        self.check(land, (0, (1,)), (5,), 36, (0,), 36)

    def test_only_the_own_lamp(self):
        self.check(LINE, START, (0, 1, 0), 1, (1,), 1)

    def test_one_end(self):
        self.check(LINE, START, (1, 0, 0), 2, (0,), 3)
        self.check(LINE, (0, (0, 0, 0)), (1, 1, 1), 5, (2,), 7)
        self.check(LINE, (0, (1, 0, 0)), (0, 0, 0), 1, (0,), 1)

    def test_several_ends(self):
        # 1, 2 and 3 hang on 0, two of them at the greatest length; all lamps can be changed
        land = made_land(4, ((0, 1, 5), (0, 2, 5), (0, 3, 4)), (pair_web(1),) * 4)
        self.check(land, (0, (0,) * 4), (1,) * 4, 4 + 28 - 5, (1, 2), 4 + 28)
        self.check(land, (3, (0,) * 4), (1,) * 4, 4 + 28 - 9, (1, 2), 4 + 28)
        self.check(land, (1, (0,) * 4), (0, 1, 0, 1), 2 + 18 - 9, (3,), 2 + 18)

    def test_by_search(self):
        chance = random.Random(221)
        for land in small_trees(chance, 80, 1000) + some_lands(chance, 5, most=3):
            a = some_state(chance, land)
            costs = least_costs(land, a)
            for _ in range(6):
                row = some_row(chance, land, a[1])
                ends = [costs[x, row] for x in range(land.many)]
                self.check(land, a, row, min(ends), tuple(x for x, spent in enumerate(ends) if spent == min(ends)),
                           costs[a[0], row])

    def test_quick_with_ten_places(self):
        # nine roads of 100 and ten turns of 100
        self.same(self.quick(1, open_price, LONG, (0, ZERO), ONES), 900 + 1000)
        self.same(self.quick(1, open_ends, LONG, (0, ZERO), ONES), (9,))
        self.same(self.quick(1, round_price, LONG, (0, ZERO), ONES), 1800 + 1000)
        # a star with roads of 1 to 9, twice 45
        self.same(self.quick(1, open_price, WIDE, (0, ZERO), ONES), 90 - 9 + 10)
        self.same(self.quick(1, open_price, WIDE, (9, ZERO), ONES), 90 - 17 + 10)
        self.same(open_ends(WIDE, (9, ZERO), ONES), (8,))
        self.quick(1, open_price, BUSHY, (0, ZERO), (5,) * 10)


class FreeTest(Case):
    def check(self, land, one, two, price, pairs):
        self.same(free_price(land, one, two), price)
        self.same(free_pairs(land, one, two), pairs)

    def test_of_the_document(self):
        self.check(LINE, (0, 0, 0), (1, 0, 1), 4, ((0, 2), (2, 0)))

    def test_the_same_row(self):
        self.check(LINE, (0, 1, 0), (0, 1, 0), 0, ((0, 0), (1, 1), (2, 2)))
        self.check(SPOT, (0,), (0,), 0, ((0, 0),))
        self.check(TREE, ZERO, ZERO, 0, tuple((x, x) for x in range(10)))

    def test_one_changed_lamp(self):
        self.check(LINE, (0, 0, 0), (0, 1, 0), 1, ((1, 1),))
        self.check(LINE, (0, 0, 1), (0, 0, 0), 1, ((2, 2),))
        land = made_land(1, (), (line_web(3, 8),))
        self.check(land, (0,), (2,), 16, ((0, 0),))

    def test_several_pairs(self):
        land = made_land(4, ((0, 1, 5), (0, 2, 5), (0, 3, 5)), (pair_web(1),) * 4)
        self.check(land, (0,) * 4, (1,) * 4, 4 + 30 - 10, ((1, 2), (1, 3), (2, 1), (2, 3), (3, 1), (3, 2)))
        self.check(land, (0,) * 4, (1, 0, 0, 1), 2 + 5, ((0, 3), (3, 0)))

    def test_by_search(self):
        chance = random.Random(222)
        for land in small_trees(chance, 80, 400) + some_lands(chance, 3, most=3):
            one = some_state(chance, land)[1]
            costs = [least_costs(land, (x, one)) for x in range(land.many)]
            for _ in range(6):
                two = some_row(chance, land, one)
                table = {(x, y): costs[x][y, two] for x in range(land.many) for y in range(land.many)}
                least = min(table.values())
                self.check(land, one, two, least, tuple(sorted(pair for pair in table if table[pair] == least)))

    def test_quick_with_ten_places(self):
        self.same(self.quick(1, free_price, LONG, ZERO, ONES), 900 + 1000)
        self.same(self.quick(1, free_pairs, LONG, ZERO, ONES), ((0, 9), (9, 0)))
        self.same(self.quick(1, free_price, WIDE, ZERO, ONES), 90 - 17 + 10)
        self.same(self.quick(1, free_pairs, WIDE, ZERO, ONES), ((8, 9), (9, 8)))
        self.quick(1, free_price, BUSHY, ZERO, (5,) * 10)


class ErrorsTest(Case):
    STATES = (START, (3, (0, 0, 0)), (0, (0,)), (-1, ()))
    ROWS = ((0, 0, 0), (), (0,), (-1, 0, 0))

    def test_ring_comes_first(self):
        for row in self.ROWS:
            for a in self.STATES:
                for call in (open_price, open_ends, round_price):
                    self.refuses(NotTree, 0, call, THREE, a, row)
                    self.refuses(NotTree, 0, call, FOUR, a, row)
            for other in self.ROWS:
                for call in (free_price, free_pairs):
                    self.refuses(NotTree, 0, call, THREE, row, other)

    def test_the_state_ahead_of_the_row(self):
        for call in (open_price, open_ends, round_price):
            for row in self.ROWS:
                self.refuses(BadPlace, 3, call, LINE, (3, (0, 0, 0)), row)
                self.refuses(BadPlace, -1, call, LINE, (-1, ()), row)
                self.refuses(BadState, 2, call, LINE, (1, (0, 9)), row)
                self.refuses(BadState, (1,), call, LINE, (1, (0, 2, 2)), row)

    def test_the_row(self):
        for call in (open_price, open_ends, round_price):
            self.check_row(lambda row: (call, LINE, START, row))

    def test_one_ahead_of_two(self):
        for call in (free_price, free_pairs):
            for good in ((0, 0, 0), (1, 1, 1)):
                self.check_row(lambda row: (call, LINE, good, row))
            for other in ((0, 0, 0), (), (-1, 0, 0)):
                self.check_row(lambda row: (call, LINE, row, other))

    def check_row(self, given):
        for many in (0, 1, 2, 4, 10):
            self.refuses(BadState, many, *given((9,) * many))
        for bad in (-1, 2, FAR, -FAR):
            self.refuses(BadState, (0,), *given((bad, bad, 0)))
            self.refuses(BadState, (1,), *given((1, bad, bad)))
            self.refuses(BadState, (2,), *given((0, 1, bad)))

    def test_by_name(self):
        self.same(open_price(land=LINE, a=START, row=(1, 0, 1)), 5)
        self.same(free_pairs(two=(0, 1, 0), one=(0, 0, 0), land=LINE), ((1, 1),))

    def test_a_lamp_alone(self):
        land = made_land(2, ((0, 1, 1),), (alone(), pair_web(1)))
        self.refuses(BadState, (0,), open_price, land, (0, (0, 0)), (1, 1))
        self.refuses(BadState, (0,), free_price, land, (0, 0), (1, 1))

    def test_the_land_stays_as_it_is(self):
        for call in (open_price, open_ends, round_price):
            call(TREE, (0, ZERO), (0, 1) + ZERO[2:])
        free_price(TREE, ZERO, (0, 1) + ZERO[2:])
        free_pairs(TREE, ZERO, (0, 1) + ZERO[2:])
        self.same(TREE.roads, TREE_ROADS)
