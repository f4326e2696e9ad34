import random

from lampwalks.errors import BadState, BadWorth, Dear, NotTree
from lampwalks.floor import Floor
from lampwalks.floorasks import best_for, can_go_home, home_price, in_reach, way_home
from lampwalks.leastruns import least_run
from lampwalks.purses import best
from tests.helpers import (
    BUSHY, FOUR, LINE, LONG, SMALL_WEBS, SPOT, STAR, THREE, FloorCase, begun, least_costs, led, small_trees, some_deed,
    some_lands, some_state, steps_from, told)

START = (1, (0, 0, 0))


class HomeTest(FloorCase):
    def test_at_the_mark(self):
        for land, state in ((LINE, START), (SPOT, (0, (0,))), (THREE, (2, (1, 1, 0)))):
            floor = Floor(land, state, 0)
            self.same(home_price(floor), 0)
            self.same(can_go_home(floor), True)
            self.same(way_home(floor), ())

    def test_a_tree(self):
        floor = Floor(LINE, START, 6)
        floor.go(0)
        floor.turn(1)
        self.same(home_price(floor), 2)
        self.same(can_go_home(floor), True)
        self.same(way_home(floor), (("turn", 0), ("go", 1)))
        floor.go(1)
        floor.go(2)
        self.same(floor.purse(), 2)
        self.same(home_price(floor), 4)
        self.same(can_go_home(floor), False)
        self.refuses(Dear, 4, way_home, floor)
        floor.mark()
        self.same(home_price(floor), 0)
        self.same(way_home(floor), ())
        floor.undo()
        floor.earn(1)
        self.same(can_go_home(floor), False)
        self.refuses(Dear, 4, way_home, floor)
        floor.earn(1)
        self.same(can_go_home(floor), True)
        self.same(way_home(floor), least_run(LINE, floor.state(), START))

    def test_a_ring(self):
        floor = Floor(FOUR, (0, (0, 0, 0, 0)), 20)
        for word, number in (("turn", 1), ("go", 1), ("turn", 1), ("go", 2), ("turn", 1), ("go", 3)):
            getattr(floor, word)(number)
        self.same(floor.purse(), 14)
        # from 3 the lamps of 0, 1 and 2 are turned back, ending at 0: on to 2, 1 and 0
        self.same(home_price(floor), 6)
        self.same(led(FOUR, floor.state(), way_home(floor)), ((0, (0, 0, 0, 0)), 6))

    def test_beside_a_search(self):
        chance = random.Random(372)
        for land in small_trees(chance, 30, 300) + some_lands(chance, 30, ring=True, most=4, lamps=SMALL_WEBS[1:4]):
            floor, plain = begun(land, some_state(chance, land), chance.choice((0, 20, 100, 300)))
            for _ in range(40):
                self.both(floor, plain, *some_deed(chance, land, floor.state()))
                if chance.random() < 0.3:
                    self.check(land, floor)
                    self.tell(floor, plain)

    def check(self, land, floor):
        least = least_costs(land, floor.state())[floor.marked()]
        self.same(home_price(floor), least)
        self.same(can_go_home(floor), floor.purse() >= least)
        if floor.purse() >= least:
            self.same(led(land, floor.state(), way_home(floor)), (floor.marked(), least))
            if len(land.roads) < land.many:
                self.same(way_home(floor), least_run(land, floor.state(), floor.marked()))
        else:
            self.refuses(Dear, least, way_home, floor)


class ReachTest(FloorCase):
    def test_ordinary(self):
        self.same([in_reach(Floor(LINE, START, purse)) for purse in (0, 1, 7, 10 ** 9)], [1, 4, 24, 24])

    def test_beside_a_search(self):
        chance = random.Random(373)
        for land in small_trees(chance, 40, 300):
            state = some_state(chance, land)
            costs = least_costs(land, state)
            floor = Floor(land, state, chance.randint(0, max(costs.values()) + 1))
            self.same(in_reach(floor), sum(spent <= floor.purse() for spent in costs.values()))
            for deed, _, _ in steps_from(land, state)[:1]:
                floor.earn(500)
                getattr(floor, deed[0])(deed[1])
                costs = least_costs(land, floor.state())
                self.same(in_reach(floor), sum(spent <= floor.purse() for spent in costs.values()))

    def test_a_great_purse(self):
        floor = Floor(LONG, (0, (0,) * 10), 10 ** 9)
        for _ in range(300):
            floor.earn(10 ** 6)
        self.same(self.quick(2, in_reach, floor), 10 * 6 ** 10)

    def test_ring_comes_first(self):
        for land in (THREE, FOUR):
            self.refuses(NotTree, 0, in_reach, Floor(land, (0, (0,) * land.many), 0))


class BestForTest(FloorCase):
    WISH, WORTHS = (0, 1, 1, 1), (0, 5, 5, 5)

    def test_ordinary(self):
        floor = Floor(STAR, (0, (0, 0, 0, 0)), 4)
        self.same(best_for(floor, self.WISH, self.WORTHS), (5, 2, (1,)))
        floor.go(2)
        self.same(best_for(floor, self.WISH, self.WORTHS), (5, 1, (2,)))
        floor.earn(3)
        self.same(best_for(floor, self.WISH, self.WORTHS), (10, 4, (1, 2)))
        floor.turn(1)
        self.same(best_for(floor, self.WISH, self.WORTHS), (5, 3, (1,)))
        self.same(best_for(floor, wish=self.WISH, worths=self.WORTHS), (5, 3, (1,)))

    def test_as_best(self):
        chance = random.Random(374)
        for land in some_lands(chance, 20):
            floor = Floor(land, some_state(chance, land), chance.randint(0, 500))
            wish = some_state(chance, land)[1]
            worths = tuple(chance.randint(0, 9) for _ in range(land.many))
            wanted = best(land, floor.state(), wish, worths, floor.purse())
            self.same(best_for(floor, wish, worths), wanted)

    def test_a_great_purse(self):
        floor = Floor(BUSHY, (0, (0,) * 10), 10 ** 9)
        self.same(self.quick(2, best_for, floor, (5,) * 10, (1,) * 10)[0], 10)

    def test_errors(self):
        floor = Floor(STAR, (0, (0, 0, 0, 0)), 4)
        for worths in (self.WORTHS, (), (-1,) * 4):
            self.refuses(BadState, 3, best_for, floor, (9,) * 3, worths)
            self.refuses(BadState, (0,), best_for, floor, (1, 2, 0, 0), worths)
        for many in (0, 3, 5):
            self.refuses(BadWorth, many, best_for, floor, self.WISH, (-1,) * many)
        self.refuses(BadWorth, (2,), best_for, floor, self.WISH, (0, 1000, 1001, -1))
        self.same(told(floor), ((0, (0, 0, 0, 0)), 4, (0, (0, 0, 0, 0)), 0, ()))

    def test_ring_comes_first(self):
        for land in (THREE, FOUR):
            floor = Floor(land, (0, (0,) * land.many), 0)
            for wish in ((0,) * land.many, (), (9,) * land.many):
                for worths in ((0,) * land.many, (), (-1,) * land.many):
                    self.refuses(NotTree, 0, best_for, floor, wish, worths)
