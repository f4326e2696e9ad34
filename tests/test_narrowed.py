import random

from lampwalks.errors import BadEnds, BadPlace, BadRow, BadState, NotTree
from lampwalks.lands import made_land
from lampwalks.narrowed import goal
from lampwalks.webmakers import alone, pair_web, star_web, wheel_web
from tests.helpers import (
    FOUR, LINE, LONG, MANY_WAYS, SPOT, THREE, TREE, TREE_ROADS, WEE, WIDE, Case, least_costs, small_trees,
    some_lands, some_state)

FAR = 10 ** 30
ZERO = (0,) * 10
START = (1, (0, 0, 0))


def goal_of(prices, ends, rows):
    """The least price among the states that are let, how many have it, and the first of these."""
    found = sorted((spent, state) for state, spent in prices.items()
                   if (ends is None or state[0] in ends)
                   and (rows is None or all(q in qs for q, qs in zip(state[1], rows))))
    return found[0][0], [spent for spent, _ in found].count(found[0][0]), found[0][1]


def some_places(chance, many):
    return tuple(sorted(chance.sample(range(many), chance.randint(1, many))))


class GoalTest(Case):
    def test_example(self):
        self.same(goal(WEE, (0, (0, 0)), None, ((0,), (1,))), (2, 1, (1, (0, 1))))

    def test_a_state_that_is_let_itself(self):
        self.same(goal(LINE, START, None, None), (0, 1, START))
        self.same(goal(LINE, START, (0, 1), ((0, 1), (0,), (0,))), (0, 1, START))
        self.same(goal(SPOT, (0, (0,)), None, None), (0, 1, (0, (0,))))
        self.same(goal(SPOT, (0, (0,)), (0,), ((0,),)), (0, 1, (0, (0,))))
        self.same(goal(WIDE, (3, (5,) * 10), None, None), (0, 1, (3, (5,) * 10)))

    def test_ends(self):
        self.same(goal(LINE, START, (0, 2), None), (1, 2, (0, (0, 0, 0))))
        self.same(goal(LINE, START, (2,), None), (1, 1, (2, (0, 0, 0))))
        self.same(goal(LINE, (0, (1, 0, 1)), (1, 2), None), (1, 1, (1, (1, 0, 1))))
        self.same(goal(LINE, START, (0, 1, 2), ((1,), (0, 1), (1,))), (5, 2, (0, (1, 0, 1))))

    def test_rows(self):
        self.same(goal(LINE, START, None, ((0, 1), (1,), (0, 1))), (1, 1, (1, (0, 1, 0))))
        self.same(goal(LINE, START, (1,), ((1,), (0,), (1,))), (6, 1, (1, (1, 0, 1))))
        # a lamp that may stay is not changed
        self.same(goal(LINE, START, None, ((0, 1), (0, 1), (1,))), (2, 1, (2, (0, 0, 1))))

    def test_several_nearest_positions(self):
        land = made_land(2, ((0, 1, 4),), (star_web(6, 9), wheel_web(6, 2)))
        # five positions at 9, two at 2
        self.same(goal(land, (0, (0, 0)), (0,), ((1, 2, 3, 4, 5), (0,))), (9, 5, (0, (1, 0))))
        self.same(goal(land, (0, (0, 0)), None, ((3, 5), (1, 2, 5))), (9 + 4 + 2, 4, (1, (3, 1))))
        self.same(goal(land, (0, (0, 0)), None, ((0, 3), (2, 3, 4, 5))), (4 + 2, 1, (1, (0, 5))))
        self.same(goal(land, (0, (0, 0)), None, ((0, 3), (2, 3, 4))), (4 + 4, 2, (1, (0, 2))))

    def test_the_first_of_several_places(self):
        # 1, 2 and 3 hang on 0 at the same length
        land = made_land(4, ((0, 1, 5), (0, 2, 5), (0, 3, 5)), (pair_web(1), alone(), pair_web(2), pair_web(2)))
        a = (0, (0, 0, 0, 0))
        self.same(goal(land, a, (1, 2, 3), None), (5, 3, (1, (0, 0, 0, 0))))
        self.same(goal(land, a, (2, 3), None), (5, 2, (2, (0, 0, 0, 0))))
        # one of 2 and 3 is gone to last
        self.same(goal(land, a, None, ((0,), (0,), (1,), (1,))), (5 * 3 + 4, 2, (2, (0, 0, 1, 1))))

    def test_by_search(self):
        chance = random.Random(183)
        for land in small_trees(chance, 80, 1000) + some_lands(chance, 5, most=3):
            a = some_state(chance, land)
            prices = least_costs(land, a)
            for _ in range(5):
                ends = chance.choice((None, some_places(chance, land.many)))
                rows = chance.choice((None, tuple(some_places(chance, lamp.many) for lamp in land.lamps)))
                self.same(goal(land, a, ends, rows), goal_of(prices, ends, rows))

    def test_one_position_each(self):
        chance = random.Random(184)
        for land in small_trees(chance, 20, 1000):
            a, b = some_state(chance, land), some_state(chance, land)
            rows = tuple((q,) for q in b[1])
            self.same(goal(land, a, (b[0],), rows), (least_costs(land, a)[b], 1, b))

    def test_quick_with_ten_places(self):
        rows = ((1, 2, 3, 4, 5),) * 10
        # 9 roads of 100, all twice but those to the end, and one turn of 100 each
        self.same(self.quick(1, goal, LONG, (0, ZERO), None, rows), (900 + 1000, 1, (9, (1,) * 10)))
        self.same(self.quick(1, goal, LONG, (0, ZERO), (0, 1), rows), (1700 + 1000, 1, (1, (1,) * 10)))
        land = made_land(10, LONG.roads, (star_web(6, 7),) * 10)
        self.same(self.quick(1, goal, land, (0, ZERO), None, rows), (900 + 70, 5 ** 10, (9, (1,) * 10)))
        self.quick(1, goal, WIDE, (4, (2,) * 10), None, ((0, 1, 4),) * 10)
        self.same(goal(made_land(1, (), (MANY_WAYS,)), (0, (2,)), None, ((1, 3, 5),)), (1, 1, (0, (1,))))


class ErrorsTest(Case):
    ENDS = (None, (0,), (), (3,), (1, 1))
    ROWS = (None, ((0,), (0,), (0,)), (), ((0,), (), (0,)))

    def test_ring_comes_first(self):
        for ends in self.ENDS:
            for rows in self.ROWS:
                for a in (START, (3, (0, 0, 0)), (0, (0,)), (-1, ())):
                    self.refuses(NotTree, 0, goal, THREE, a, ends, rows)
                self.refuses(NotTree, 0, goal, FOUR, (0, (0,) * 4), ends, rows)

    def test_then_the_state(self):
        for ends in self.ENDS:
            for rows in self.ROWS:
                self.refuses(BadPlace, 3, goal, LINE, (3, (0, 0, 0)), ends, rows)
                self.refuses(BadState, 2, goal, LINE, (1, (0, 9)), ends, rows)
                self.refuses(BadState, (1,), goal, LINE, (1, (0, 2, 2)), ends, rows)

    def test_then_the_ends(self):
        for rows in self.ROWS:
            self.refuses(BadEnds, -1, goal, LINE, START, (), rows)
            for ends, what in (((3,), 0), ((-1, 5), 0), ((0, 0), 1), ((0, 2, 1), 2), ((0, FAR), 1), ((2, 1, 9), 1)):
                self.refuses(BadEnds, what, goal, LINE, START, ends, rows)

    def test_then_the_rows(self):
        for ends in (None, (0,), (0, 1, 2)):
            for rows in ((), ((0,), (0,)), ((), (5,)), ((0,),) * 4):
                self.refuses(BadState, len(rows), goal, LINE, START, ends, rows)
            for row in ((), (2,), (-1,), (0, 0), (1, 0), (0, 1, 2), (FAR,), (-FAR, 0)):
                self.refuses(BadRow, (0,), goal, LINE, START, ends, (row, (0,), (0,)))
                self.refuses(BadRow, (1,), goal, LINE, START, ends, ((0,), row, ()))
                self.refuses(BadRow, (2,), goal, LINE, START, ends, ((0, 1), (1,), row))

    def test_what_is_handed_in_stays(self):
        ends, rows = (0, 2), ((0,), (0, 1), (1,))
        goal(LINE, START, ends, rows)
        self.same((ends, rows), ((0, 2), ((0,), (0, 1), (1,))))
        goal(TREE, (0, ZERO), None, None)
        self.same(TREE.roads, TREE_ROADS)
