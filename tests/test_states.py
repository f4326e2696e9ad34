from lampwalks.errors import BadPlace, BadState
from lampwalks.lands import made_land
from lampwalks.states import is_state, made_state, states_many
from lampwalks.webmakers import line_web, star_web
from tests.helpers import LINE, ODD, RINGED, SPOT, THREE, TREE, WEE, Case, all_states, doubled, nested

FAR = 10 ** 30

# a place with a lamp of six positions
SIX = made_land(1, (), (star_web(6, 1),))

ZERO = (0,) * 10


class MadeStateTest(Case):
    def test_ordinary(self):
        self.same(made_state(SPOT, 0, (0,)), (0, (0,)))
        self.same(made_state(SIX, 0, (5,)), (0, (5,)))
        self.same(made_state(LINE, 1, (1, 0, 1)), (1, (1, 0, 1)))
        self.same(made_state(TREE, 9, (0, 1, 2, 3, 5, 0, 1, 3, 5, 1)), (9, (0, 1, 2, 3, 5, 0, 1, 3, 5, 1)))
        self.same(made_state(RINGED, 7, (1, 0, 2, 1, 5, 0, 1, 1)), (7, (1, 0, 2, 1, 5, 0, 1, 1)))

    def test_bad_place(self):
        for bad in (-1, 3, FAR, -FAR):
            self.refuses(BadPlace, bad, made_state, LINE, bad, (0, 0, 0))
            self.refuses(BadPlace, bad, made_state, LINE, bad, (0, 0))
            self.refuses(BadPlace, bad, made_state, LINE, bad, (9, 9, 9))
        self.refuses(BadPlace, 1, made_state, SPOT, 1, (0,))

    def test_number_of_positions(self):
        for row in ((), (0,), (0, 0), (0, 0, 0, 0), (9, 9), (-1, 0, 0, 0)):
            self.refuses(BadState, len(row), made_state, LINE, 2, row)
        self.refuses(BadState, 11, made_state, TREE, 0, ZERO + (0,))

    def test_bad_position(self):
        self.refuses(BadState, (0,), made_state, LINE, 0, (2, 0, 0))
        self.refuses(BadState, (0,), made_state, LINE, 0, (-1, 2, 2))
        self.refuses(BadState, (1,), made_state, LINE, 0, (1, -1, 2))
        self.refuses(BadState, (2,), made_state, LINE, 0, (1, 1, FAR))
        self.refuses(BadState, (2,), made_state, LINE, 0, (1, 1, -FAR))
        self.refuses(BadState, (0,), made_state, WEE, 0, (1, 1))
        self.refuses(BadState, (0,), made_state, SIX, 0, (6,))
        for i, many in enumerate((1, 2, 3, 4, 6, 1, 2, 4, 6, 2)):
            self.refuses(BadState, (i,), made_state, TREE, 0, ZERO[:i] + (many,) + ZERO[i + 1:])


class IsStateTest(Case):
    def test_all_states(self):
        for land in (SPOT, SIX, WEE, LINE, THREE, RINGED):
            for state in all_states(land):
                self.same(is_state(land, state), True)
        self.same(is_state(TREE, (9, (0, 1, 2, 3, 5, 0, 1, 3, 5, 1))), True)

    def test_odd_values(self):
        for land in (SPOT, SIX, WEE, LINE, TREE, THREE, RINGED):
            for odd in ODD:
                self.same(is_state(land, odd), False)
                self.same(is_state(land, (odd, (0,) * land.many)), odd == 0 or (odd == 1 and land.many > 1))
                self.same(is_state(land, (0, (0,) * land.many, odd)), False)
                self.same(is_state(land, (0, ((0,) * land.many, odd))), False)

    def test_odd_rows(self):
        for odd in ODD:
            self.same(is_state(LINE, (0, odd)), False)
            self.same(is_state(LINE, (0, (0, odd, 0))), odd in (0, 1))
            self.same(is_state(LINE, (0, (0, 0, 0, odd))), False)

    def test_wrong_numbers(self):
        for place, row in ((3, (0, 0, 0)), (-1, (0, 0, 0)), (FAR, (0, 0, 0)), (-FAR, (0, 0, 0)), (0, ()), (0, (0, 0)),
                           (0, (0, 0, 0, 0)), (0, (2, 0, 0)), (0, (0, -1, 0)), (0, (0, 0, FAR)), (0, (0, -FAR, 0))):
            self.same(is_state(LINE, (place, row)), False)
        self.same(is_state(WEE, (0, (1, 0))), False)
        self.same(is_state(TREE, (0, (0, 0, 0, 0, 6, 0, 0, 0, 0, 0))), False)

    def test_texts_that_look_like_states(self):
        for thing in ("0000", ("0", "000"), ("0", (0, 0, 0)), (0, "000"), (0, ("0", "0", "0")), "0: 0 0 0"):
            self.same(is_state(LINE, thing), False)

    def test_true_and_false_are_no_numbers(self):
        for thing in ((True, (0, 0, 0)), (False, (0, 0, 0)), (0, (True, 0, 0)), (0, (0, 0, False))):
            self.same(is_state(LINE, thing), False)

    def test_great_values(self):
        for thing in (nested(100), doubled(16), (0, nested(99)), (0, tuple(range(99990))), (nested(50), (0, 0, 0))):
            self.same(is_state(LINE, thing), False)


class StatesManyTest(Case):
    def test_how_many(self):
        self.same(states_many(SPOT), 1)
        self.same(states_many(SIX), 6)
        self.same(states_many(WEE), 4)
        self.same(states_many(LINE), 24)
        self.same(states_many(THREE), 12)
        self.same(states_many(RINGED), 2304)
        self.same(states_many(TREE), 138240)

    def test_the_greatest_number(self):
        roads = tuple((x, x + 1, 1) for x in range(9))
        self.same(states_many(made_land(10, roads, (line_web(6, 1),) * 10)), 604661760)
