import random

from lampwalks.errors import BadPlace, BadState, BadWorth, NotTree
from lampwalks.planback import table
from tests.helpers import (
    BUSHY, FOUR, LINE, LONG, SPOT, STAR, THREE, TREE, TREE_ROADS, Case, all_sets, small_trees, some_lands, some_row,
    some_state, some_worths)

FAR = 10 ** 30
ZERO = (0,) * 10
ONES = (1,) * 10
A = (0, (0, 0, 0, 0))
WISH = (0, 1, 1, 1)
WORTHS = (0, 5, 5, 5)


def table_of(sets):
    """The greatest worth that each purse lets, wherever it is more than that of a purse less by 1."""
    found, before = [], -1
    for purse in range(max(price for price, _, _ in sets) + 1):
        worth = max(worth for price, worth, _ in sets if price <= purse)
        if worth > before:
            found.append((purse, worth))
            before = worth
    return tuple(found)


class TableTest(Case):
    def test_of_the_document(self):
        self.same(table(STAR, A, WISH, WORTHS), ((0, 0), (3, 5), (6, 10), (9, 15)))

    def test_nothing_grows(self):
        self.same(table(STAR, A, A[1], WORTHS), ((0, 0),))
        self.same(table(STAR, A, WISH, (9, 0, 0, 0)), ((0, 0),))
        self.same(table(SPOT, (0, (0,)), (0,), (1000,)), ((0, 0),))

    def test_alike_prices(self):
        self.same(table(STAR, A, WISH, (0, 4, 6, 5)), ((0, 0), (3, 6), (6, 11), (9, 15)))
        self.same(table(STAR, A, WISH, (0, 0, 6, 0)), ((0, 0), (3, 6)))

    def test_a_worth_that_does_not_grow_with_the_price(self):
        # the lamp of 1 costs 1 and is worth 5; that of 2 costs 1 + 2 and is worth 5, together 10
        self.same(table(LINE, (1, (0, 0, 0)), (0, 1, 1), (0, 5, 5)), ((0, 0), (1, 5), (4, 10)))
        self.same(table(LINE, (1, (0, 0, 0)), (0, 1, 1), (0, 0, 5)), ((0, 0), (3, 5)))
        self.same(table(LINE, (1, (0, 0, 0)), (0, 1, 1), (0, 5, 0)), ((0, 0), (1, 5)))

    def test_all_sets_listed(self):
        chance = random.Random(301)
        for land in small_trees(chance, 100, 1000) + some_lands(chance, 5, most=3):
            a = some_state(chance, land)
            wish, worths = some_row(chance, land, a[1]), some_worths(chance, land.many)
            self.same(table(land, a, wish, worths), table_of(all_sets(land, a, wish, worths, True)))

    def test_quick_with_ten_places(self):
        worths = (1,) * 10
        self.same(self.quick(2, table, LONG, (0, ZERO), ONES, worths),
                  ((0, 0),) + tuple((100 * k + 200 * (k - 1), k) for k in range(1, 11)))
        self.quick(2, table, BUSHY, (4, ZERO), (5,) * 10, tuple(range(991, 1001)))


class ErrorsTest(Case):
    STATES = (A, (4, (0, 0, 0, 0)), (0, (0,)), (-1, ()))
    WISHES = (WISH, (), (0, 2, 0, 0), (1, 1, 1, 1))
    WORTHS = (WORTHS, (), (0, 5, -1, 1001), (1001,) * 5)

    def test_ring_comes_first(self):
        for a in self.STATES:
            for wish in self.WISHES:
                for worths in self.WORTHS:
                    self.refuses(NotTree, 0, table, THREE, a, wish, worths)
                    self.refuses(NotTree, 0, table, FOUR, a, wish, worths)

    def test_then_the_state(self):
        for wish in self.WISHES:
            for worths in self.WORTHS:
                self.refuses(BadPlace, 4, table, STAR, (4, (0,) * 4), wish, worths)
                self.refuses(BadState, 3, table, STAR, (0, (9,) * 3), wish, worths)
                self.refuses(BadState, (2,), table, STAR, (0, (0, 0, -1, 2)), wish, worths)

    def test_then_the_wish(self):
        for worths in self.WORTHS:
            self.refuses(BadState, 0, table, STAR, A, (), worths)
            self.refuses(BadState, 5, table, STAR, A, (9,) * 5, worths)
            self.refuses(BadState, (0,), table, STAR, A, (1, 1, 1, 1), worths)
            self.refuses(BadState, (3,), table, STAR, A, (0, 1, 1, -1), worths)

    def test_then_the_worths(self):
        for many in (0, 1, 3, 5, 10):
            self.refuses(BadWorth, many, table, STAR, A, WISH, (-1,) * many)
        for bad in (-1, 1001, FAR, -FAR):
            self.refuses(BadWorth, (0,), table, STAR, A, WISH, (bad, bad, 0, 0))
            self.refuses(BadWorth, (2,), table, STAR, A, A[1], (0, 1000, bad, bad))
            self.refuses(BadWorth, (3,), table, STAR, A, WISH, (0, 1000, 0, bad))

    def test_by_name(self):
        self.same(table(worths=WORTHS, wish=WISH, a=A, land=STAR), ((0, 0), (3, 5), (6, 10), (9, 15)))

    def test_the_land_stays_as_it_is(self):
        table(TREE, (0, ZERO), (0, 1) + ZERO[2:], ONES)
        self.same(TREE.roads, TREE_ROADS)
