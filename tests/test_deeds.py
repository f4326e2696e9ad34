import random

from lampwalks.deeds import cost, offers
from lampwalks.done import done
from lampwalks.errors import BadDeed, BadPlace, BadState
from lampwalks.lands import made_land
from lampwalks.states import is_state
from lampwalks.webmakers import pair_web, star_web, wheel_web
from tests.helpers import (
    LINE, ODD, RINGED, RINGED_ROADS, SPOT, THREE, TREE, TREE_ROADS, WEE, Case, all_states, nested, some_lands,
    some_state)

FAR = 10 ** 30
ZERO = (0,) * 10

# the lamp has six positions
SIX = made_land(1, (), (star_web(6, 9),))


class CostTest(Case):
    def test_going(self):
        self.same(cost(LINE, (1, (0, 0, 0)), ("go", 0)), 1)
        self.same(cost(LINE, (1, (0, 0, 0)), ("go", 2)), 1)
        self.same(cost(TREE, (4, ZERO), ("go", 6)), 100)
        self.same(cost(TREE, (6, ZERO), ("go", 4)), 100)
        self.same(cost(TREE, (6, ZERO), ("go", 9)), 4)
        self.same(cost(TREE, (3, ZERO), ("go", 1)), 5)

    def test_a_road_costs_its_length_even_if_a_way_is_shorter(self):
        self.same(cost(THREE, (0, (0, 0, 0)), ("go", 2)), 5)
        self.same(cost(RINGED, (6, (0,) * 8), ("go", 1)), 5)

    def test_turning(self):
        self.same(cost(LINE, (1, (0, 0, 0)), ("turn", 1)), 1)
        self.same(cost(LINE, (1, (1, 1, 1)), ("turn", 0)), 1)
        self.same(cost(TREE, (7, ZERO), ("turn", 1)), 1)
        self.same(cost(TREE, (7, ZERO), ("turn", 3)), 3)
        self.same(cost(TREE, (4, (0, 0, 0, 0, 5, 0, 0, 0, 0, 0)), ("turn", 0)), 100)
        self.same(cost(RINGED, (6, (0,) * 8), ("turn", 1)), 9)
        self.same(cost(SIX, (0, (0,)), ("turn", 5)), 9)

    def test_the_lamp_where_the_walker_stands_is_turned(self):
        # at 7 the lamp stands at 2, from which 3 and 1 are tied; at other places other positions are tied
        state = (7, (0, 0, 0, 0, 0, 0, 0, 2, 5, 0))
        self.same(cost(TREE, state, ("turn", 3)), 1)
        self.refuses(BadDeed, 2, cost, TREE, state, ("turn", 0))
        self.refuses(BadDeed, 1, cost, TREE, state, ("turn", 4))

    def test_form_of_deeds(self):
        for call in (cost, done):
            for odd in ODD:
                self.refuses(BadDeed, 0, call, LINE, (1, (0, 0, 0)), odd)
                self.refuses(BadDeed, 0, call, RINGED, (1, (0,) * 8), odd)
                if odd not in ("go", "turn"):
                    self.refuses(BadDeed, 0, call, LINE, (1, (0, 0, 0)), (odd, 0))
                if odd not in (0, 1, -1, FAR, -FAR):
                    self.refuses(BadDeed, 0, call, LINE, (1, (0, 0, 0)), ("go", odd))
                    self.refuses(BadDeed, 0, call, LINE, (1, (0, 0, 0)), ("turn", odd))
            self.refuses(BadDeed, 0, call, LINE, (1, (0, 0, 0)), ("go", nested(99)))

    def test_true_and_false_are_no_numbers(self):
        for call in (cost, done):
            for deed in (("go", False), ("go", True), ("turn", False), ("turn", True)):
                self.refuses(BadDeed, 0, call, LINE, (1, (0, 0, 0)), deed)

    def test_numbers_out_of_range(self):
        for call in (cost, done):
            for bad in (-1, 3, 4, FAR, -FAR):
                self.refuses(BadDeed, 1, call, LINE, (1, (0, 0, 0)), ("go", bad))
            for bad in (-1, 2, 3, FAR, -FAR):
                self.refuses(BadDeed, 1, call, LINE, (1, (0, 0, 0)), ("turn", bad))
            self.refuses(BadDeed, 1, call, SPOT, (0, (0,)), ("go", 1))
            self.refuses(BadDeed, 1, call, SPOT, (0, (0,)), ("turn", 1))
            self.refuses(BadDeed, 1, call, SIX, (0, (0,)), ("turn", 6))
            # place 0 has a lamp with one position; the other lamp has two
            self.refuses(BadDeed, 1, call, WEE, (0, (0, 0)), ("turn", 1))

    def test_not_tied(self):
        for call in (cost, done):
            self.refuses(BadDeed, 2, call, LINE, (0, (0, 0, 0)), ("go", 2))
            self.refuses(BadDeed, 2, call, LINE, (0, (0, 0, 0)), ("go", 0))
            self.refuses(BadDeed, 2, call, LINE, (0, (1, 0, 0)), ("turn", 1))
            self.refuses(BadDeed, 2, call, TREE, (7, ZERO), ("turn", 2))
            self.refuses(BadDeed, 2, call, TREE, (7, ZERO), ("go", 9))
            self.refuses(BadDeed, 2, call, SIX, (0, (1,)), ("turn", 2))
            self.refuses(BadDeed, 2, call, SPOT, (0, (0,)), ("go", 0))
            self.refuses(BadDeed, 2, call, SPOT, (0, (0,)), ("turn", 0))

    def test_the_state_comes_first(self):
        for call in (cost, done):
            for deed in (("go", 0), ("go", 9), "x", ()):
                self.refuses(BadPlace, 3, call, LINE, (3, (0, 0, 0)), deed)
                self.refuses(BadPlace, -1, call, LINE, (-1, (0,)), deed)
                self.refuses(BadState, 2, call, LINE, (1, (0, 5)), deed)
                self.refuses(BadState, (1,), call, LINE, (1, (0, 2, 2)), deed)


class OffersTest(Case):
    def test_ordinary(self):
        self.same(offers(LINE, (1, (0, 0, 0))), (("go", 0), ("go", 2), ("turn", 1)))
        self.same(offers(LINE, (0, (1, 0, 0))), (("go", 1), ("turn", 0)))
        self.same(offers(TREE, (7, ZERO)), (("go", 6), ("go", 8), ("turn", 1), ("turn", 3)))
        self.same(offers(TREE, (3, (0, 0, 0, 2, 0, 0, 0, 0, 0, 0))),
                  (("go", 0), ("go", 1), ("go", 2), ("go", 4), ("turn", 1), ("turn", 3)))
        self.same(offers(RINGED, (6, (0,) * 8)), (("go", 1), ("go", 2), ("go", 3), ("turn", 1)))
        self.same(offers(THREE, (2, (0, 0, 0))), (("go", 0), ("go", 1)))

    def test_one_place(self):
        self.same(offers(SPOT, (0, (0,))), ())
        self.same(offers(SIX, (0, (0,))), (("turn", 1), ("turn", 2), ("turn", 3), ("turn", 4), ("turn", 5)))
        self.same(offers(SIX, (0, (4,))), (("turn", 0),))

    def test_they_are_just_what_costs_something(self):
        for land in (SPOT, SIX, WEE, LINE, THREE):
            for state in all_states(land):
                possible = []
                for deed in [("go", y) for y in range(land.many)] + [("turn", q) for q in range(6)]:
                    try:
                        cost(land, state, deed)
                        possible.append(deed)
                    except BadDeed:
                        pass
                self.same(offers(land, state), tuple(possible))

    def test_errors(self):
        self.refuses(BadPlace, 3, offers, LINE, (3, (0, 0)))
        self.refuses(BadPlace, -FAR, offers, RINGED, (-FAR, ()))
        self.refuses(BadState, 2, offers, LINE, (1, (0, 5)))
        self.refuses(BadState, (0,), offers, LINE, (1, (-1, 2, 0)))


class DoneTest(Case):
    def test_going(self):
        self.same(done(LINE, (1, (0, 1, 0)), ("go", 0)), (0, (0, 1, 0)))
        self.same(done(TREE, (4, ZERO), ("go", 6)), (6, ZERO))
        self.same(done(THREE, (0, (1, 0, 0)), ("go", 2)), (2, (1, 0, 0)))

    def test_turning(self):
        self.same(done(LINE, (0, (0, 0, 0)), ("turn", 1)), (0, (1, 0, 0)))
        self.same(done(LINE, (1, (0, 0, 0)), ("turn", 1)), (1, (0, 1, 0)))
        self.same(done(LINE, (2, (1, 1, 1)), ("turn", 0)), (2, (1, 1, 0)))
        self.same(done(TREE, (7, ZERO), ("turn", 3)), (7, (0, 0, 0, 0, 0, 0, 0, 3, 0, 0)))
        self.same(done(SIX, (0, (0,)), ("turn", 5)), (0, (5,)))

    def test_what_is_handed_in_stays(self):
        state = (1, (0, 1, 0))
        deed = ("turn", 0)
        done(LINE, state, deed)
        self.same(state, (1, (0, 1, 0)))
        self.same(deed, ("turn", 0))
        done(TREE, (7, ZERO), ("turn", 3))
        done(RINGED, (6, (0,) * 8), ("go", 1))
        self.same(TREE.roads, TREE_ROADS)
        self.same(RINGED.roads, RINGED_ROADS)
        self.same(TREE.lamps[7].roads, ((0, 1, 1), (0, 3, 3), (1, 2, 1), (2, 3, 1)))


class TakenBackTest(Case):
    """[0.3] (c): each deed is taken back by a deed of the same cost."""

    def check(self, land, state):
        for deed in offers(land, state):
            then = done(land, state, deed)
            self.assertTrue(is_state(land, then))
            self.assertNotEqual(then, state)
            back = (deed[0], state[0] if deed[0] == "go" else state[1][state[0]])
            self.assertIn(back, offers(land, then))
            self.same(done(land, then, back), state)
            self.same(cost(land, then, back), cost(land, state, deed))

    def test_all_states_of_small_lands(self):
        wheels = made_land(2, ((0, 1, 7),), (wheel_web(5, 3), pair_web(100)))
        for land in (SPOT, SIX, WEE, LINE, THREE, wheels):
            for state in all_states(land):
                self.check(land, state)

    def test_drawn_states(self):
        chance = random.Random(41)
        for land in some_lands(chance, 20) + some_lands(chance, 20, ring=True):
            self.check(land, some_state(chance, land))
