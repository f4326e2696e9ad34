import random

from lampwalks.errors import BadPlace, BadPurse, BadState, BadWorth, NotTree
from lampwalks.lands import made_land
from lampwalks.plans import least_for
from lampwalks.purses import best
from lampwalks.webmakers import line_web, pair_web
from tests.helpers import (
    BUSHY, FOUR, LONG, SPOT, STAR, THREE, TREE, TREE_ROADS, WIDE, Case, all_sets, small_trees, some_lands, some_row,
    some_state, some_worths)

FAR = 10 ** 30
ZERO = (0,) * 10
ONES = (1,) * 10
A = (0, (0, 0, 0, 0))
WISH = (0, 1, 1, 1)
WORTHS = (0, 5, 5, 5)


def best_of(sets, purse):
    worth, price, places = min((-worth, price, places) for price, worth, places in sets if price <= purse)
    return -worth, price, places


def least_of(sets, need):
    found = [(price, -worth, places) for price, worth, places in sets if worth >= need]
    if not found:
        return None
    price, worth, places = min(found)
    return price, -worth, places


class BestTest(Case):
    def test_of_the_document(self):
        self.same(best(STAR, A, WISH, WORTHS, 4), (5, 2, (1,)))

    def test_other_purses(self):
        self.same(best(STAR, A, WISH, WORTHS, 0), (0, 0, ()))
        self.same(best(STAR, A, WISH, WORTHS, 1), (0, 0, ()))
        self.same(best(STAR, A, WISH, WORTHS, 2), (5, 2, (1,)))
        self.same(best(STAR, A, WISH, WORTHS, 5), (10, 5, (1, 2)))
        self.same(best(STAR, A, WISH, WORTHS, 7), (10, 5, (1, 2)))
        self.same(best(STAR, A, WISH, WORTHS, 8), (15, 8, (1, 2, 3)))
        self.same(best(STAR, A, WISH, WORTHS, FAR), (15, 8, (1, 2, 3)))

    def test_back(self):
        self.same(best(STAR, A, WISH, WORTHS, 2, back=True), (0, 0, ()))
        self.same(best(STAR, A, WISH, WORTHS, 3, back=True), (5, 3, (1,)))
        self.same(best(STAR, A, WISH, WORTHS, 5, back=True), (5, 3, (1,)))
        self.same(best(STAR, A, WISH, WORTHS, 6, back=True), (10, 6, (1, 2)))
        self.same(best(STAR, A, WISH, WORTHS, FAR, back=True), (15, 9, (1, 2, 3)))
        self.same(best(STAR, A, WISH, WORTHS, 4, back=False), (5, 2, (1,)))

    def test_worths(self):
        # nothing is bought that is worth nothing
        self.same(best(STAR, A, WISH, (0, 0, 0, 0), FAR), (0, 0, ()))
        self.same(best(STAR, A, WISH, (1000, 0, 7, 0), FAR), (7, 2, (2,)))
        self.same(best(STAR, A, WISH, (0, 5, 5, 6), 4), (6, 2, (3,)))
        # like places are worth nothing
        self.same(best(STAR, A, (0, 0, 1, 0), (9, 9, 1, 9), FAR), (1, 2, (2,)))
        self.same(best(STAR, A, A[1], (9, 9, 9, 9), FAR), (0, 0, ()))
        self.same(best(SPOT, (0, (0,)), (0,), (1000,), FAR), (0, 0, ()))

    def test_one_place(self):
        land = made_land(1, (), (line_web(6, 100),))
        self.same(best(land, (0, (5,)), (0,), (1,), 499), (0, 0, ()))
        self.same(best(land, (0, (5,)), (0,), (1,), 500), (1, 500, (0,)))

    def test_alike_worths_and_prices(self):
        # {0} is worth as much as {1, 2} and costs more
        land = made_land(3, ((0, 1, 9), (1, 2, 1)), (pair_web(1), pair_web(1), pair_web(1)))
        self.same(best(land, (1, (0, 0, 0)), (1, 1, 1), (4, 2, 2), 10), (4, 3, (1, 2)))
        # the lamps cost 2, 3, 1 and 1, on 0 and at the ends of three roads; (0, 3) and (1,) both cost 4
        land = made_land(4, ((0, 1, 1), (0, 2, 1), (0, 3, 1)), (pair_web(2), pair_web(3), pair_web(1), pair_web(1)))
        a, wish = (0, (0,) * 4), (1,) * 4
        self.same(best(land, a, wish, (2, 5, 0, 3), 4), (5, 4, (0, 3)))
        self.same(best(land, a, wish, (2, 5, 3, 3), 4), (5, 4, (0, 2)))
        self.same(best(land, a, wish, (2, 6, 3, 3), 4), (6, 4, (1,)))
        self.same(best(land, a, wish, (2, 5, 3, 5), 3), (5, 2, (3,)))
        self.same(least_for(land, a, wish, (2, 5, 0, 3), 4), (4, 5, (0, 3)))
        self.same(least_for(land, a, wish, (2, 6, 0, 3), 4), (4, 6, (1,)))

    def test_all_sets_listed(self):
        chance = random.Random(281)
        for land in small_trees(chance, 80, 1000) + some_lands(chance, 5, most=3):
            a = some_state(chance, land)
            wish, worths = some_row(chance, land, a[1]), some_worths(chance, land.many)
            for back in (False, True):
                sets = all_sets(land, a, wish, worths, back)
                prices = [price for price, _, _ in sets]
                for purse in {chance.choice(prices), max(chance.choice(prices) - 1, 0), chance.randint(0, max(prices)),
                              0, FAR}:
                    self.same(best(land, a, wish, worths, purse, back=back), best_of(sets, purse))

    def test_quick_with_ten_places(self):
        worths = tuple(range(991, 1001))
        self.same(self.quick(2, best, LONG, (0, ZERO), ONES, worths, 1900), (9955, 1900, tuple(range(10))))
        self.same(self.quick(2, best, LONG, (0, ZERO), ONES, worths, 2799, back=True)[0], 9955 - 991)
        self.quick(2, best, WIDE, (0, ZERO), ONES, worths, 50)
        self.quick(2, best, BUSHY, (4, ZERO), (5,) * 10, worths, FAR)


class LeastForTest(Case):
    def test_of_the_land_of_the_document(self):
        for need, wanted in ((-FAR, (0, 0, ())), (-1, (0, 0, ())), (0, (0, 0, ())), (1, (2, 5, (1,))),
                             (5, (2, 5, (1,))), (6, (5, 10, (1, 2))), (10, (5, 10, (1, 2))), (11, (8, 15, (1, 2, 3))),
                             (15, (8, 15, (1, 2, 3))), (16, None), (FAR, None)):
            self.same(least_for(STAR, A, WISH, WORTHS, need), wanted)
        self.same(least_for(STAR, A, WISH, WORTHS, 6, back=True), (6, 10, (1, 2)))
        self.same(least_for(STAR, A, WISH, WORTHS, 15, back=True), (9, 15, (1, 2, 3)))
        self.same(least_for(STAR, A, WISH, WORTHS, 16, back=True), None)

    def test_worths(self):
        self.same(least_for(STAR, A, WISH, (0, 0, 0, 0), 0), (0, 0, ()))
        self.same(least_for(STAR, A, WISH, (9, 0, 0, 0), 1), None)
        # of the sets at one price the greatest worth, then the first set
        self.same(least_for(STAR, A, WISH, (0, 4, 6, 5), 3), (2, 6, (2,)))
        self.same(least_for(STAR, A, WISH, (0, 4, 6, 6), 5), (2, 6, (2,)))
        self.same(least_for(STAR, A, A[1], (9, 9, 9, 9), 0), (0, 0, ()))
        self.same(least_for(STAR, A, A[1], (9, 9, 9, 9), 1), None)
        self.same(least_for(SPOT, (0, (0,)), (0,), (1000,), 1), None)

    def test_all_sets_listed(self):
        chance = random.Random(291)
        for land in small_trees(chance, 80, 1000) + some_lands(chance, 5, most=3):
            a = some_state(chance, land)
            wish, worths = some_row(chance, land, a[1]), some_worths(chance, land.many)
            for back in (False, True):
                sets = all_sets(land, a, wish, worths, back)
                whole = max(worth for _, worth, _ in sets)
                for need in {chance.choice(sets)[1], chance.choice(sets)[1] + 1, whole, whole + 1, 0, -1, FAR}:
                    self.same(least_for(land, a, wish, worths, need, back=back), least_of(sets, need))

    def test_quick_with_ten_places(self):
        worths = tuple(range(991, 1001))
        self.same(self.quick(2, least_for, LONG, (0, ZERO), ONES, worths, 9955), (1900, 9955, tuple(range(10))))
        self.same(self.quick(2, least_for, LONG, (0, ZERO), ONES, worths, 1, back=True), (100, 991, (0,)))
        self.same(self.quick(2, least_for, BUSHY, (0, ZERO), (5,) * 10, worths, 9956), None)
        self.quick(2, least_for, WIDE, (0, ZERO), ONES, worths, 5000)


class ErrorsTest(Case):
    STATES = (A, (4, (0, 0, 0, 0)), (0, (0,)), (-1, ()))
    WISHES = (WISH, (), (0, 2, 0, 0), (1, 1, 1, 1))
    WORTHS = (WORTHS, (), (0, 5, -1, 1001), (1001,) * 5)
    PURSES = (0, -1, -FAR, FAR)

    def both(self, kind, what, land, a, wish, worths):
        """Both best and least_for raise this, whatever the purse or the need."""
        for purse in self.PURSES:
            for back in (False, True):
                self.refuses(kind, what, best, land, a, wish, worths, purse, back=back)
                self.refuses(kind, what, least_for, land, a, wish, worths, purse, back=back)

    def test_ring_comes_first(self):
        for a in self.STATES:
            for wish in self.WISHES:
                for worths in self.WORTHS:
                    self.both(NotTree, 0, THREE, a, wish, worths)
        self.both(NotTree, 0, FOUR, A, WISH, WORTHS)

    def test_then_the_state(self):
        for wish in self.WISHES:
            for worths in self.WORTHS:
                self.both(BadPlace, 4, STAR, (4, (0,) * 4), wish, worths)
                self.both(BadState, 3, STAR, (0, (9,) * 3), wish, worths)
                self.both(BadState, (2,), STAR, (0, (0, 0, -1, 2)), wish, worths)

    def test_then_the_wish(self):
        for worths in self.WORTHS:
            self.both(BadState, 0, STAR, A, (), worths)
            self.both(BadState, 5, STAR, A, (9,) * 5, worths)
            self.both(BadState, (0,), STAR, A, (1, 1, 1, 1), worths)
            self.both(BadState, (1,), STAR, A, (0, FAR, -1, 1), worths)
            self.both(BadState, (3,), STAR, A, (0, 1, 1, -1), worths)

    def test_then_the_worths(self):
        for many in (0, 1, 3, 5, 10):
            self.both(BadWorth, many, STAR, A, WISH, (-1,) * many)
        for bad in (-1, 1001, FAR, -FAR):
            self.both(BadWorth, (0,), STAR, A, WISH, (bad, bad, 0, 0))
            self.both(BadWorth, (2,), STAR, A, A[1], (0, 1000, bad, bad))
            self.both(BadWorth, (3,), STAR, A, WISH, (0, 1000, 0, bad))
        self.both(BadWorth, (0,), SPOT, (0, (0,)), (0,), (1001,))

    def test_then_the_purse(self):
        for purse in (-1, -2, -FAR):
            for back in (False, True):
                self.refuses(BadPurse, purse, best, STAR, A, WISH, WORTHS, purse, back=back)
                self.refuses(BadPurse, purse, best, SPOT, (0, (0,)), (0,), (0,), purse, back=back)

    def test_back_comes_by_name_only(self):
        for call in (best, least_for):
            with self.assertRaises(TypeError):
                call(STAR, A, WISH, WORTHS, 4, True)

    def test_by_name(self):
        self.same(best(back=True, purse=3, worths=WORTHS, wish=WISH, a=A, land=STAR), (5, 3, (1,)))
        self.same(least_for(back=True, need=3, worths=WORTHS, wish=WISH, a=A, land=STAR), (3, 5, (1,)))

    def test_the_land_stays_as_it_is(self):
        best(TREE, (0, ZERO), ZERO, ZERO, 9)
        least_for(TREE, (0, ZERO), (0, 1) + ZERO[2:], ZERO, 0)
        self.same(TREE.roads, TREE_ROADS)
