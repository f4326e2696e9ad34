import itertools
import random

from lampwalks.errors import BadPlace, BadState, NotTree
from lampwalks.lands import made_land
from lampwalks.papers import paper, paper_right
from lampwalks.webmakers import pair_web
from tests.helpers import (
    BUSHY, FOUR, LINE, LONG, ODD, SPOT, THREE, TREE, TREE_ROADS, WIDE, Case, all_apart, least_costs, on_way,
    small_trees, some_end, some_lands, some_state)

ZERO = (0,) * 10
START = (1, (0, 0, 0))
END = (2, (1, 0, 1))
PAPER = (((2, 0), (1, -1)), (1, 0, 1))
FAR = 10 ** 30


def entry_right(land, a, b, road, entry):
    """Whether an entry of a road is right, by ways in the land."""
    if entry == 0:
        return True
    if entry == (1, -1):
        return on_way(land, road, a[0], b[0])
    many, v = entry
    if many != 2 or not 0 <= v < land.many:
        return False
    return a[1][v] != b[1][v] and on_way(land, road, a[0], v) and on_way(land, road, b[0], v)


def lamp_costs(land, a, b):
    return tuple(all_apart(lamp.many, lamp.roads)[p, q] for lamp, p, q in zip(land.lamps, a[1], b[1]))


def paper_of(land, a, b):
    """The paper, by the words of the document."""
    roads = []
    for road in range(len(land.roads)):
        right = [(2, v) for v in range(land.many) if entry_right(land, a, b, road, (2, v))]
        if on_way(land, road, a[0], b[0]):
            roads.append((1, -1))
        else:
            roads.append(right[0] if right else 0)
    return tuple(roads), lamp_costs(land, a, b)


def said(land, told):
    """The sum that a paper says."""
    roads, lamps = told
    return sum(lamps) + sum(road[2] * (entry if entry == 0 else entry[0]) for road, entry in zip(land.roads, roads))


class PaperTest(Case):
    def test_of_the_document(self):
        self.same(paper(LINE, START, END), PAPER)
        self.same(paper_right(LINE, START, END, PAPER, 5), True)

    def test_nothing_to_do(self):
        self.same(paper(LINE, START, START), ((0, 0), (0, 0, 0)))
        self.same(paper(SPOT, (0, (0,)), (0, (0,))), ((), (0,)))
        self.same(paper(TREE, (4, ZERO), (4, ZERO)), ((0,) * 9, ZERO))

    def test_the_least_changed_place_beyond(self):
        self.same(paper(LINE, (0, (0, 0, 0)), (0, (0, 1, 1))), (((2, 1), (2, 2)), (0, 1, 1)))
        self.same(paper(LINE, (2, (0, 0, 0)), (2, (1, 1, 1))), (((2, 0), (2, 0)), (1, 1, 1)))
        # a changed place that is not beyond is not named
        self.same(paper(LINE, (1, (0, 0, 0)), (1, (1, 1, 1))), (((2, 0), (2, 2)), (1, 1, 1)))
        self.same(paper(LINE, (0, (0, 0, 0)), (2, (1, 1, 1))), (((1, -1), (1, -1)), (1, 1, 1)))

    def test_drawn_lands(self):
        chance = random.Random(341)
        for land in some_lands(chance, 150):
            a = some_state(chance, land)
            b = some_end(chance, land, a)
            told = paper(land, a, b)
            self.same(told, paper_of(land, a, b))
            self.same(paper_right(land, a, b, told, said(land, told)), True)

    def test_the_price_by_search(self):
        chance = random.Random(342)
        for land in small_trees(chance, 60, 500):
            a = some_state(chance, land)
            costs = least_costs(land, a)
            for b in [some_end(chance, land, a) for _ in range(5)] + [a]:
                self.same(paper_right(land, a, b, paper(land, a, b), costs[b]), True)
                self.same(paper_right(land, a, b, paper(land, a, b), costs[b] - 1), False)
                self.same(paper_right(land, a, b, paper(land, a, b), costs[b] + 1), False)

    def test_quick_with_ten_places(self):
        for land in (WIDE, LONG, BUSHY):
            told = self.quick(1, paper, land, (4, ZERO), (6, (5,) * 10))
            self.same(self.quick(1, paper_right, land, (4, ZERO), (6, (5,) * 10), told, said(land, told)), True)

    def test_errors(self):
        states = (START, (3, (0, 0, 0)), (0, (0,)), (-1, ()))
        for a in states:
            for b in states:
                self.refuses(NotTree, 0, paper, THREE, a, b)
                self.refuses(NotTree, 0, paper, FOUR, a, b)
            self.refuses(BadPlace, 4, paper, LINE, (4, (0,)), a)
            self.refuses(BadState, 2, paper, LINE, (1, (9, 9)), a)
            self.refuses(BadState, (1,), paper, LINE, (1, (0, 2, 2)), a)
        self.refuses(BadPlace, -1, paper, LINE, START, (-1, (0, 0)))
        self.refuses(BadState, 4, paper, LINE, START, (1, (9,) * 4))
        self.refuses(BadState, (2,), paper, LINE, START, (1, (0, 0, 2)))

    def test_by_name(self):
        self.same(paper(b=END, a=START, land=LINE), PAPER)
        self.same(paper_right(price=5, paper=PAPER, b=END, a=START, land=LINE), True)

    def test_the_land_stays_as_it_is(self):
        paper(TREE, (0, ZERO), (9, ZERO))
        self.same(TREE.roads, TREE_ROADS)


class RightTest(Case):
    def judge(self, told, price, wanted, land=LINE, a=START, b=END):
        self.same(paper_right(land, a, b, told, price), wanted)

    def test_papers_that_say_less(self):
        for one, two, p, q in itertools.product((0, (2, 0)), (0, (1, -1)), (0, 1), (0, 1)):
            price = (2 if one else 0) + (1 if two else 0) + p + q
            for shift in (-2, -1, 0, 1, 2):
                self.judge(((one, two), (p, 0, q)), price + shift, shift == 0)

    def test_any_changed_place_beyond(self):
        a, b = (0, (0, 0, 0)), (0, (0, 1, 1))
        self.judge((((2, 2), (2, 2)), (0, 1, 1)), 6, True, a=a, b=b)
        self.judge((((2, 1), (2, 2)), (0, 1, 1)), 6, True, a=a, b=b)
        self.judge((((2, 1), (2, 1)), (0, 1, 1)), 6, False, a=a, b=b)
        self.judge((((2, 0), (2, 2)), (0, 1, 1)), 6, False, a=a, b=b)

    def test_bad_entries_of_roads(self):
        for entry in ((1, 0), (1, -2), (0, 0), (0, -1), (2, -1), (2, 1), (2, 2), (2, 3), (2, FAR), (3, 0), (1, -1),
                      (-1, -1), (-2, 0), (1,), (2,), (2, 0, 0), (), 1, 2, -1, FAR, "", "0", ((2, 0),), ("2", 0),
                      (2, "0"), ((2,), 0), (2, (0,))):
            for price in range(-3, 9):
                self.judge(((entry, (1, -1)), (1, 0, 1)), price, False)
        for entry in ((2, 0), (2, 1), (2, 2), (1, 1)):
            for price in range(9):
                self.judge((((2, 0), entry), (1, 0, 1)), price, False)

    def test_bad_lamps(self):
        for lamps in ((2, 0, 1), (1, 1, 1), (1, 0, 2), (-1, 0, 1), (1, -1, 1), (1, 0, -1), (1, 0), (1, 0, 1, 0), (),
                      ("1", 0, 1), (1, (), 1), (1, 0, (1,)), 1, "101", ((1, 0, 1),)):
            for price in range(-1, 9):
                self.judge((((2, 0), (1, -1)), lamps), price, False)

    def test_bad_forms(self):
        roads, lamps = PAPER
        for told in ((), (roads,), (roads, lamps, ()), (lamps, roads), roads, lamps, (PAPER,), (roads[:1], lamps),
                     (roads + (0,), lamps), ((), lamps), (roads, ""), ("", lamps), ("ab", "abc"), (0, 0)):
            for price in (0, 2, 3, 5):
                self.judge(told, price, False)

    def test_each_entry_by_ways(self):
        chance = random.Random(351)
        for land in some_lands(chance, 40, most=6):
            a = some_state(chance, land)
            b = some_end(chance, land, a)
            roads, lamps = paper_of(land, a, b)
            for road in range(len(roads)):
                for entry in [0, (1, -1), (1, 0), (2, -1)] + [(2, v) for v in range(land.many + 1)]:
                    told = (roads[:road] + (entry,) + roads[road + 1:], lamps)
                    right = entry_right(land, a, b, road, entry) and entry != (1, 0)
                    self.judge(told, said(land, told), right, land, a, b)

    def test_each_lamp_by_its_lengths(self):
        chance = random.Random(352)
        for land in some_lands(chance, 40, most=6):
            a = some_state(chance, land)
            b = some_end(chance, land, a)
            roads, lamps = paper_of(land, a, b)
            for x, most in enumerate(lamps):
                for length in (-1, 0, most - 1, most, most + 1):
                    told = (roads, lamps[:x] + (length,) + lamps[x + 1:])
                    self.judge(told, said(land, told), 0 <= length <= most, land, a, b)

    def test_lands_with_a_ring(self):
        for land in (THREE, FOUR):
            a = (0, (0,) * land.many)
            told = ((0,) * len(land.roads), (0,) * land.many)
            self.judge(told, 0, False, land, a, a)

    def test_the_smallest_land(self):
        here = (0, (0,))
        self.judge(((), (0,)), 0, True, SPOT, here, here)
        for told, price in ((((), (0,)), 1), (((), ()), 0), (((0,), (0,)), 0), (((), (1,)), 1), (((), (-1,)), -1)):
            self.judge(told, price, False, SPOT, here, here)

    def test_states_that_are_none(self):
        for bad in ((3, (0, 0, 0)), (-1, (0, 0, 0)), (0, (0, 0)), (0, (0, 0, 2)), (0, (0, -1, 0)), (0, (0, 0, 0), 0)):
            self.judge(((0, 0), (0, 0, 0)), 0, False, a=bad)
            self.judge(((0, 0), (0, 0, 0)), 0, False, b=bad)
            self.judge(((0, 0), (0, 0, 0)), 0, False, a=bad, b=bad)

    def test_any_values(self):
        for thing in ODD:
            self.judge(thing, 5, False)
            if not isinstance(thing, int) or thing != 5:
                self.judge(PAPER, thing, False)
            self.judge(PAPER, 5, False, a=thing)
            self.judge(PAPER, 5, False, b=thing)
            self.judge((thing, (1, 0, 1)), 5, False)
            self.judge((((2, 0), (1, -1)), thing), 5, False)
            if thing != 0:
                for price in (2, 3, 4, 5):
                    self.judge(((thing, (1, -1)), (1, 0, 1)), price, False)
                    self.judge((((2, 0), thing), (1, 0, 1)), price, False)
            if thing not in (0, 1):
                self.judge((((2, 0), (1, -1)), (thing, 0, 1)), 5, False)
                self.judge((((2, 0), (1, -1)), (1, thing, 1)), 5, False)

    def test_no_run_is_below_a_right_price(self):
        # all papers with entries of a few kinds, on a small land
        land = made_land(3, ((0, 1, 1), (0, 2, 2)), (pair_web(1), pair_web(3), pair_web(1)))
        entries = [0, (1, -1)] + [(2, v) for v in range(3)]
        for a, b in (((0, (0, 0, 0)), (1, (0, 1, 1))), ((1, (0, 0, 0)), (1, (1, 1, 0))),
                     ((2, (0, 0, 1)), (0, (0, 0, 0)))):
            least = least_costs(land, a)[b]
            right = []
            for roads in itertools.product(entries, repeat=2):
                for lamps in itertools.product((0, 1), (0, 3), (0, 1)):
                    for price in range(14):
                        if paper_right(land, a, b, (roads, lamps), price):
                            right.append(price)
            self.assertEqual(max(right), least)
