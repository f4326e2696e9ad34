import random

from lampwalks.deadends import dead_why, is_dead
from lampwalks.errors import BadPlace, BadState, NotTree
from lampwalks.lands import made_land
from lampwalks.webmakers import alone, line_web, pair_web, wheel_web
from tests.helpers import (
    BUSHY, FOUR, LINE, LONG, SPOT, THREE, TREE, TREE_ROADS, WIDE, Case, all_states, least_costs, small_trees,
    some_state, steps_from)

ZERO = (0,) * 10
TWO = made_land(2, ((0, 1, 1),), (pair_web(1), pair_web(1)))
A = (0, (0, 0))
START = (1, (0, 0, 0))


class DeadTest(Case):
    def check(self, land, a, x, why):
        self.same(dead_why(land, a, x), why)
        self.same(is_dead(land, a, x), why is None)

    def test_of_the_document(self):
        self.check(TWO, A, (0, (1, 1)), None)
        self.check(TWO, A, (1, (1, 1)), ("go", 0))
        self.check(TWO, A, (1, (0, 0)), ("turn", 1))

    def test_the_beginning_itself(self):
        self.check(TWO, A, A, ("go", 1))
        self.check(SPOT, (0, (0,)), (0, (0,)), None)
        self.check(made_land(1, (), (pair_web(3),)), (0, (0,)), (0, (0,)), ("turn", 1))
        self.check(made_land(1, (), (pair_web(3),)), (0, (0,)), (0, (1,)), None)

    def test_dead_at_the_place_of_the_beginning(self):
        self.check(LINE, START, (1, (1, 1, 1)), None)
        # the road to 2 leads to no changed lamp
        self.check(LINE, START, (1, (1, 1, 0)), ("go", 2))
        self.check(LINE, START, (1, (1, 0, 1)), ("turn", 1))

    def test_dead_at_another_place(self):
        land = made_land(3, LINE.roads, (pair_web(1), pair_web(1), alone()))
        for row in ((0, 0, 0), (1, 0, 0), (0, 1, 0), (1, 1, 0)):
            self.check(land, (0, (0, 0, 0)), (2, row), None)
        # with a lamp that can be turned it is not dead
        self.check(LINE, (0, (0, 0, 0)), (2, (0, 0, 0)), ("turn", 1))
        self.check(LINE, (0, (0, 0, 0)), (2, (0, 0, 1)), ("go", 1))

    def test_a_lamp_that_has_no_farther_position_beside(self):
        land = made_land(1, (), (line_web(6, 1),))
        self.check(land, (0, (0,)), (0, (5,)), None)
        self.check(land, (0, (0,)), (0, (4,)), ("turn", 5))
        self.check(land, (0, (3,)), (0, (2,)), ("turn", 1))
        land = made_land(1, (), (wheel_web(5, 1),))
        # 2 and 3 are at the same length from 0
        self.check(land, (0, (0,)), (0, (2,)), None)
        self.check(land, (0, (0,)), (0, (3,)), None)
        self.check(land, (0, (0,)), (0, (1,)), ("turn", 2))

    def test_by_search(self):
        chance = random.Random(241)
        dead = []
        for land in small_trees(chance, 60, 300):
            a = some_state(chance, land)
            costs = least_costs(land, a)
            for x in all_states(land):
                farther = [deed for deed, _, then in steps_from(land, x) if costs[then] > costs[x]]
                self.check(land, a, x, farther[0] if farther else None)
                dead.extend(x[0] == a[0] for _ in range(not farther))
        self.assertIn(True, dead)
        self.assertIn(False, dead)

    def test_quick_with_ten_places(self):
        for land in (WIDE, LONG, BUSHY):
            for x in ((0, ZERO), (9, (5,) * 10), (4, (0, 1) * 5)):
                self.quick(1, is_dead, land, (4, ZERO), x)


class ErrorsTest(Case):
    STATES = (START, (3, (0, 0, 0)), (0, (0,)), (-1, ()))

    def test_ring_comes_first(self):
        for call in (is_dead, dead_why):
            for a in self.STATES:
                for x in self.STATES:
                    self.refuses(NotTree, 0, call, THREE, a, x)
                    self.refuses(NotTree, 0, call, FOUR, a, x)

    def test_a_ahead_of_x(self):
        for call in (is_dead, dead_why):
            for bad in self.STATES:
                self.refuses(BadPlace, 4, call, LINE, (4, (0, 0, 0)), bad)
                self.refuses(BadState, 2, call, LINE, (1, (0, 9)), bad)
                self.refuses(BadState, (1,), call, LINE, (1, (0, 2, 2)), bad)
            self.refuses(BadPlace, -1, call, LINE, START, (-1, (0, 0)))
            self.refuses(BadState, 4, call, LINE, START, (1, (9, 9, 9, 9)))
            self.refuses(BadState, (2,), call, LINE, START, (1, (0, 0, 2)))

    def test_by_name(self):
        self.same(dead_why(land=TWO, a=A, x=(1, (0, 0))), ("turn", 1))
        self.same(is_dead(x=(1, (0, 0)), a=A, land=TWO), False)

    def test_the_land_stays_as_it_is(self):
        is_dead(TREE, (0, ZERO), (9, ZERO))
        dead_why(TREE, (0, ZERO), (9, ZERO))
        self.same(TREE.roads, TREE_ROADS)
