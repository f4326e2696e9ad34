import itertools
import random

from lampwalks.errors import BadEnds, BadPlace, BadRow, BadState, NotTree
from lampwalks.lands import made_land
from lampwalks.spheres import sphere
from lampwalks.webmakers import alone, line_web, pair_web, wheel_web
from tests.helpers import (
    FOUR, LINE, LONG, MANY_WAYS, SPOT, THREE, TREE, TREE_ROADS, UNLIKE, WEE, Case, all_apart, least_costs,
    small_trees, some_lands, some_state, tally)

FAR = 10 ** 30
ZERO = (0,) * 10
START = (1, (0, 0, 0))


def let(land, prices, ends, rows):
    """The prices of the states that ends and rows let."""
    return [spent for (place, row), spent in prices.items()
            if (ends is None or place in ends) and (rows is None or all(q in qs for q, qs in zip(row, rows)))]


def some_places(chance, many):
    """Some drawn places or positions, ascending, at least one."""
    return tuple(sorted(chance.sample(range(many), chance.randint(1, many))))


class WholeTest(Case):
    def test_examples(self):
        self.same(sphere(made_land(1, (), (pair_web(1),)), (0, (0,))), ((0, 1), (1, 1)))
        self.same(sphere(WEE, (0, (0, 0))), ((0, 1), (1, 1), (2, 1), (3, 1)))

    def test_ordinary(self):
        # from (1, (0, 0)): turned at 1, both ways to 0
        self.same(sphere(WEE, (1, (0, 0))), ((0, 1), (1, 2), (2, 1)))
        # one lamp with one road of length 3 and one way of length 1
        self.same(sphere(made_land(1, (), (UNLIKE,)), (0, (1,))), ((0, 1), (1, 2), (2, 1)))

    def test_one_place(self):
        self.same(sphere(SPOT, (0, (0,))), ((0, 1),))
        self.same(sphere(made_land(1, (), (MANY_WAYS,)), (0, (0,))),
                  ((0, 1), (1, 1), (2, 1), (3, 1), (4, 1), (5, 1)))

    def test_ten_places_with_lamps_alone(self):
        land = made_land(10, TREE_ROADS, (alone(),) * 10)
        table = all_apart(10, TREE_ROADS)
        for x in range(10):
            self.same(sphere(land, (x, ZERO)), tally(table[x, y] for y in range(10)))

    def test_by_search(self):
        chance = random.Random(171)
        for land in small_trees(chance, 80, 1500) + some_lands(chance, 6, most=3):
            a = some_state(chance, land)
            self.same(sphere(land, a), tally(least_costs(land, a).values()))

    def test_none_stands_for_all(self):
        chance = random.Random(172)
        for land in some_lands(chance, 12, most=5):
            a = some_state(chance, land)
            ends = tuple(range(land.many))
            rows = tuple(tuple(range(lamp.many)) for lamp in land.lamps)
            whole = sphere(land, a)
            self.same(sphere(land, a, ends=None, rows=None), whole)
            self.same(sphere(land, a, ends=ends), whole)
            self.same(sphere(land, a, rows=rows), whole)
            self.same(sphere(land, a, ends=ends, rows=rows), whole)

    def test_quick_with_ten_places(self):
        chance = random.Random(173)
        lamps = (alone(), pair_web(97), line_web(3, 61), line_web(3, 100), wheel_web(3, 89))
        for roads in (TREE_ROADS, LONG.roads, tuple((0, x, 10 * x) for x in range(1, 10))):
            land = made_land(10, roads, tuple(chance.choice(lamps[2:]) for _ in range(10)))
            for place in (0, 4, 9):
                pairs = self.quick(1.5, sphere, land, (place, ZERO))
                self.same(sum(many for _, many in pairs), 10 * 3 ** 10)
                self.same(pairs[0], (0, 1))


class NarrowedTest(Case):
    def test_example(self):
        self.same(sphere(WEE, (0, (0, 0)), ends=(0,)), ((0, 1), (3, 1)))

    def test_ends(self):
        self.same(sphere(WEE, (0, (0, 0)), ends=(1,)), ((1, 1), (2, 1)))
        self.same(sphere(WEE, (0, (0, 0)), ends=(0, 1)), ((0, 1), (1, 1), (2, 1), (3, 1)))
        self.same(sphere(SPOT, (0, (0,)), ends=(0,)), ((0, 1),))
        # ends are passed by, and a branch without an end can be entered all the same
        self.same(sphere(LINE, (0, (0, 0, 0)), ends=(2,), rows=((0,), (0,), (0,))), ((2, 1),))
        self.same(sphere(LINE, (0, (0, 0, 0)), ends=(0,), rows=((0,), (0,), (1,))), ((5, 1),))

    def test_rows(self):
        self.same(sphere(WEE, (0, (0, 0)), rows=((0,), (1,))), ((2, 1), (3, 1)))
        self.same(sphere(WEE, (0, (0, 0)), rows=((0,), (0,))), ((0, 1), (1, 1)))
        self.same(sphere(LINE, START, rows=((1,), (0,), (1,))), ((5, 2), (6, 1)))
        # the row of a itself is not let: the lamp of 0 must change
        self.same(sphere(LINE, START, rows=((1,), (0, 1), (0,))), ((2, 1), (3, 2), (4, 2), (5, 1)))

    def test_both(self):
        self.same(sphere(WEE, (0, (0, 0)), ends=(1,), rows=((0,), (1,))), ((2, 1),))
        self.same(sphere(LINE, START, ends=(1,), rows=((1,), (0,), (1,))), ((6, 1),))
        self.same(sphere(LINE, START, ends=(0, 2), rows=((1,), (0,), (1,))), ((5, 2),))

    def test_ten_places(self):
        row = ((0,),) * 10
        self.same(sphere(TREE, (0, ZERO), rows=row, ends=(9,)), ((2 + 7 + 100 + 4, 1),))
        row = tuple((lamp.many - 1,) for lamp in TREE.lamps)
        whole = 2 * sum(length for _, _, length in TREE_ROADS)
        lamps = sum(all_apart(lamp.many, lamp.roads)[0, lamp.many - 1] for lamp in TREE.lamps)
        # 0 and 5 are alone, so nobody need go to 5
        self.same(sphere(TREE, (0, ZERO), rows=row, ends=(0,)), ((whole - 2 + lamps, 1),))
        self.same(sphere(TREE, (5, ZERO), rows=row, ends=(0,)), ((whole - 1 - 7 - 2 + lamps, 1),))

    def test_all_small_choices(self):
        prices = least_costs(LINE, START)
        choices = [tuple(qs) for many in (1, 2) for qs in itertools.combinations(range(2), many)]
        places = [ends for many in (1, 2, 3) for ends in itertools.combinations(range(3), many)]
        for ends in places + [None]:
            for rows in list(itertools.product(choices, repeat=3)) + [None]:
                self.same(sphere(LINE, START, ends=ends, rows=rows), tally(let(LINE, prices, ends, rows)))

    def test_by_search(self):
        chance = random.Random(174)
        for land in small_trees(chance, 60, 1000) + some_lands(chance, 5, most=3):
            a = some_state(chance, land)
            prices = least_costs(land, a)
            for _ in range(4):
                ends = chance.choice((None, some_places(chance, land.many)))
                rows = chance.choice((None, tuple(some_places(chance, lamp.many) for lamp in land.lamps)))
                self.same(sphere(land, a, ends=ends, rows=rows), tally(let(land, prices, ends, rows)))


class ErrorsTest(Case):
    ENDS = (None, (0,), (), (3,), (1, 1))
    ROWS = (None, ((0,), (0,), (0,)), (), ((0,), (), (0,)))

    def test_ring_comes_first(self):
        for ends in self.ENDS:
            for rows in self.ROWS:
                for a in (START, (3, (0, 0, 0)), (0, (0,)), (-1, ())):
                    self.refuses(NotTree, 0, sphere, THREE, a, ends=ends, rows=rows)
                self.refuses(NotTree, 0, sphere, FOUR, (0, (0,) * 4), ends=ends, rows=rows)

    def test_then_the_state(self):
        for ends in self.ENDS:
            for rows in self.ROWS:
                self.refuses(BadPlace, 3, sphere, LINE, (3, (0, 0, 0)), ends=ends, rows=rows)
                self.refuses(BadPlace, -FAR, sphere, LINE, (-FAR, ()), ends=ends, rows=rows)
                self.refuses(BadState, 2, sphere, LINE, (1, (0, 9)), ends=ends, rows=rows)
                self.refuses(BadState, (1,), sphere, LINE, (1, (0, 2, 2)), ends=ends, rows=rows)

    def test_then_the_ends(self):
        for rows in self.ROWS:
            self.refuses(BadEnds, -1, sphere, LINE, START, ends=(), rows=rows)
            for ends, what in (((3,), 0), ((-1, 5), 0), ((0, 0), 1), ((0, 2, 1), 2), ((1, 0), 1), ((0, 1, 2, 3), 3),
                               ((0, FAR), 1), ((0, -FAR), 1), ((2, 1, 9), 1), ((0, 1, 2, 2), 3), ((0, 1, 1, 9), 2)):
                self.refuses(BadEnds, what, sphere, LINE, START, ends=ends, rows=rows)

    def test_then_the_rows(self):
        for ends in (None, (0,), (0, 1, 2)):
            for rows in ((), ((0,), (0,)), ((), (5,)), ((0,),) * 4, ((),) * 10):
                self.refuses(BadState, len(rows), sphere, LINE, START, ends=ends, rows=rows)
            for row in ((), (2,), (-1,), (0, 0), (1, 0), (0, 1, 2), (0, 1, 1), (FAR,), (0, FAR), (-FAR, 0)):
                self.refuses(BadRow, (0,), sphere, LINE, START, ends=ends, rows=(row, (0,), (0,)))
                self.refuses(BadRow, (1,), sphere, LINE, START, ends=ends, rows=((0,), row, ()))
                self.refuses(BadRow, (2,), sphere, LINE, START, ends=ends, rows=((0, 1), (1,), row))
            # each lamp has its own positions
            self.refuses(BadRow, (0,), sphere, WEE, (0, (0, 0)), rows=((0, 1), (0, 1)))
            self.refuses(BadRow, (0,), sphere, SPOT, (0, (0,)), rows=((1,),))

    def test_only_by_name(self):
        self.assertRaises(TypeError, sphere, LINE, START, None)
        self.assertRaises(TypeError, sphere, LINE, START, (0,), None)

    def test_what_is_handed_in_stays(self):
        ends, rows = (0, 2), ((0,), (0, 1), (1,))
        sphere(LINE, START, ends=ends, rows=rows)
        self.same((ends, rows), ((0, 2), ((0,), (0, 1), (1,))))
        sphere(TREE, (0, ZERO), ends=(3,), rows=((0,),) * 10)
        self.same(TREE.roads, TREE_ROADS)
