import fractions
import random

from lampwalks.errors import BadCount, BadPlace, BadState, NotTree
from lampwalks.lands import made_land
from lampwalks.means import drawn, lamp_mean, mean_price, nth_state, state_rank
from lampwalks.pairmeans import pair_mean
from lampwalks.webmakers import alone, line_web, pair_web
from tests.helpers import (
    BUSHY, FOUR, LINE, LONG, MANY_WAYS, SPOT, THREE, TREE, TREE_ROADS, WEE, WIDE, Case, all_apart, all_states,
    least_costs, small_trees, some_lands, some_state)

FAR = 10 ** 30
ZERO = (0,) * 10
TWO = made_land(2, ((0, 1, 1),), (pair_web(1), pair_web(1)))
START = (1, (0, 0, 0))


def as_pair(number):
    number = fractions.Fraction(number)
    return number.numerator, number.denominator


def lamps_cost(land, a, b):
    """What the lamps cost from a to b."""
    return sum(all_apart(lamp.many, lamp.roads)[p, q] for lamp, p, q in zip(land.lamps, a[1], b[1]))


class MeansTest(Case):
    def test_of_the_document(self):
        self.same(lamp_mean(TWO, (0, (0, 0))), (1, 1))
        self.same(mean_price(TWO, (0, (0, 0))), (2, 1))
        self.same(mean_price(WEE, (0, (0, 0))), (3, 2))
        self.same(mean_price(WEE, (1, (0, 0))), (1, 1))

    def test_one_place(self):
        self.same(lamp_mean(SPOT, (0, (0,))), (0, 1))
        self.same(mean_price(SPOT, (0, (0,))), (0, 1))
        land = made_land(1, (), (line_web(6, 7),))
        self.same(lamp_mean(land, (0, (0,))), (35, 2))
        self.same(mean_price(land, (0, (2,))), (21, 2))

    def test_lamps_alone(self):
        land = made_land(3, ((0, 1, 2), (1, 2, 3)), (alone(),) * 3)
        self.same(lamp_mean(land, (0, (0, 0, 0))), (0, 1))
        self.same(mean_price(land, (0, (0, 0, 0))), (7, 3))
        self.same(mean_price(land, (1, (0, 0, 0))), (5, 3))

    def test_by_search(self):
        chance = random.Random(253)
        for land in small_trees(chance, 60, 1000) + some_lands(chance, 5, most=3):
            a = some_state(chance, land)
            costs = least_costs(land, a)
            self.same(mean_price(land, a), as_pair(fractions.Fraction(sum(costs.values()), len(costs))))
            lamps = [lamps_cost(land, a, b) for b in costs]
            self.same(lamp_mean(land, a), as_pair(fractions.Fraction(sum(lamps), len(costs))))

    def test_quick_with_ten_places(self):
        # ten line webs of six positions from their ends, at 2.5 roads of 100 each
        self.same(self.quick(1, lamp_mean, LONG, (0, ZERO)), (2500, 1))
        whole = fractions.Fraction(2500)
        for road in range(9):
            zero = fractions.Fraction(road + 1, 10 * 6 ** (9 - road))
            once = fractions.Fraction(9 - road, 10)
            whole += 100 * (once + 2 * (1 - zero - once))
        self.same(self.quick(1, mean_price, LONG, (0, ZERO)), as_pair(whole))
        self.quick(1, mean_price, BUSHY, (3, (4,) * 10))


class PairMeanTest(Case):
    def test_of_the_document(self):
        self.same(pair_mean(TWO), (2, 1))

    def test_small_lands(self):
        self.same(pair_mean(SPOT), (0, 1))
        # the prices 0, 1, 2, 3 of 4, 6, 4, 2 pairs
        self.same(pair_mean(WEE), (5, 4))
        self.same(pair_mean(made_land(1, (), (line_web(3, 9),))), (8, 1))

    def test_by_search(self):
        chance = random.Random(261)
        for land in small_trees(chance, 60, 70):
            states = all_states(land)
            whole = sum(sum(least_costs(land, a).values()) for a in states)
            self.same(pair_mean(land), as_pair(fractions.Fraction(whole, len(states) ** 2)))

    def test_quick_with_ten_places(self):
        apart = all_apart(6, MANY_WAYS.roads)
        zero = fractions.Fraction(81, 100 * 6) + fractions.Fraction(1, 100 * 6 ** 9)
        once = fractions.Fraction(18, 100)
        roads = 45 * (once + 2 * (1 - zero - once))
        self.same(self.quick(1, pair_mean, WIDE), as_pair(roads + 10 * fractions.Fraction(sum(apart.values()), 36)))
        self.quick(1, pair_mean, BUSHY)

    def test_ring_comes_first(self):
        self.refuses(NotTree, 0, pair_mean, THREE)
        self.refuses(NotTree, 0, pair_mean, FOUR)

    def test_by_name(self):
        self.same(pair_mean(land=TWO), (2, 1))


class NumbersTest(Case):
    def test_of_the_document(self):
        self.same(nth_state(LINE, 10), (1, (0, 1, 0)))
        self.same(drawn(LINE, (29,)), (0, (1, 0, 1)))
        self.same(nth_state(LINE, 5), (0, (1, 0, 1)))

    def test_all_states_in_order(self):
        chance = random.Random(271)
        for land in [SPOT, WEE, LINE, made_land(1, (), (line_web(6, 1),))] + small_trees(chance, 40, 1000):
            for k, state in enumerate(all_states(land)):
                self.same(nth_state(land, k), state)
                self.same(state_rank(land, state), k)

    def test_ten_places(self):
        many = 10 * 6 ** 10
        self.same(self.quick(1, nth_state, LONG, many - 1), (9, (5,) * 10))
        self.same(self.quick(1, state_rank, LONG, (9, (5,) * 10)), many - 1)
        self.same(nth_state(WIDE, 6 ** 10 + 6 * 4 + 2), (1, (0,) * 8 + (4, 2)))
        self.same(state_rank(WIDE, (1, (0,) * 8 + (4, 2))), 6 ** 10 + 26)
        chance = random.Random(272)
        for _ in range(100):
            k = chance.randrange(many)
            self.same(state_rank(BUSHY, nth_state(BUSHY, k)), k)

    def test_drawn(self):
        chance = random.Random(273)
        for land in small_trees(chance, 30, 300):
            states = all_states(land)
            for _ in range(10):
                digits = tuple(chance.choice((0, 1, -1, 9, -25, FAR, -FAR, chance.randint(-99, 99)))
                               for _ in range(chance.randint(1, 6)))
                r = 0
                for digit in digits:
                    r = (r * 1000003 + digit) % len(states)
                self.same(drawn(land, digits), states[r])

    def test_drawn_by_digits_below_0_and_very_great_ones(self):
        self.same(drawn(LINE, (-1,)), nth_state(LINE, 23))
        self.same(drawn(LINE, (-24,)), nth_state(LINE, 0))
        # 10 ** 30 is 16 modulo 24
        self.same(drawn(LINE, (FAR,)), nth_state(LINE, 16))
        self.same(drawn(LINE, (-FAR,)), nth_state(LINE, 8))
        # 1000003 is 19 modulo 24
        self.same(drawn(LINE, (1, 0)), nth_state(LINE, 19))
        self.same(drawn(LINE, (1, 0, 0)), nth_state(LINE, 1))
        self.same(drawn(SPOT, (7, -7)), (0, (0,)))
        self.quick(1, drawn, BUSHY, (FAR,) * 10000)


class ErrorsTest(Case):
    STATES = (START, (3, (0, 0, 0)), (0, (0,)), (-1, ()))

    def test_ring_comes_first(self):
        for land in (THREE, FOUR):
            for a in self.STATES:
                for call in (lamp_mean, mean_price, state_rank):
                    self.refuses(NotTree, 0, call, land, a)
            for k in (0, -1, FAR):
                self.refuses(NotTree, 0, nth_state, land, k)
                self.refuses(NotTree, 0, drawn, land, (k,))
            self.refuses(NotTree, 0, drawn, land, ())

    def test_the_state(self):
        for call in (lamp_mean, mean_price, state_rank):
            for place in (-1, 3, FAR):
                self.refuses(BadPlace, place, call, LINE, (place, (0, 9)))
            self.refuses(BadState, 2, call, LINE, (1, (0, 9)))
            self.refuses(BadState, 4, call, LINE, (1, (9,) * 4))
            self.refuses(BadState, (0,), call, LINE, (1, (-1, 2, 2)))
            self.refuses(BadState, (2,), call, LINE, (1, (0, 1, 2)))

    def test_the_number(self):
        for k in (-1, 24, 25, FAR, -FAR):
            self.refuses(BadCount, k, nth_state, LINE, k)
        self.refuses(BadCount, 1, nth_state, SPOT, 1)
        self.refuses(BadCount, 10 * 6 ** 10, nth_state, LONG, 10 * 6 ** 10)

    def test_no_digits(self):
        self.refuses(BadCount, 0, drawn, LINE, ())
        self.refuses(BadCount, 0, drawn, SPOT, ())

    def test_by_name(self):
        self.same(lamp_mean(land=TWO, a=(0, (0, 0))), (1, 1))
        self.same(mean_price(a=(0, (0, 0)), land=TWO), (2, 1))
        self.same(nth_state(k=10, land=LINE), (1, (0, 1, 0)))
        self.same(state_rank(state=(1, (0, 1, 0)), land=LINE), 10)
        self.same(drawn(digits=(29,), land=LINE), (0, (1, 0, 1)))

    def test_the_land_stays_as_it_is(self):
        for call in (lamp_mean, mean_price, state_rank):
            call(TREE, (0, ZERO))
        nth_state(TREE, 77)
        drawn(TREE, (77, 78))
        pair_mean(TREE)
        self.same(TREE.roads, TREE_ROADS)
