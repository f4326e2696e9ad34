import random

from lampwalks.errors import BadPlace, BadState, BadText
from lampwalks.lands import made_land
from lampwalks.statetext import state_of, state_text
from lampwalks.webmakers import line_web
from tests.helpers import (
    FOUR, LINE, LONG, RINGED, SPOT, THREE, TREE, TREE_ROADS, WEE, Case, all_states, some_lands, some_state)

FAR = 10 ** 30
ZERO = (0,) * 10


def written(state):
    place, row = state
    text = str(place) + ":"
    for q in row:
        text += " " + str(q)
    return text


class WrittenTest(Case):
    def test_of_the_document(self):
        self.same(state_text(WEE, (1, (0, 0))), "1: 0 0")
        self.same(state_of(WEE, "1: 0 0"), (1, (0, 0)))

    def test_all_states_of_small_lands(self):
        for land in (SPOT, WEE, LINE, THREE, FOUR, made_land(1, (), (line_web(6, 1),))):
            for state in all_states(land):
                self.same(state_text(land, state), written(state))
                self.same(state_of(land, written(state)), state)

    def test_ten_places(self):
        self.same(state_text(LONG, (9, (5,) * 10)), "9: 5 5 5 5 5 5 5 5 5 5")
        self.same(state_of(LONG, "9: 5 5 5 5 5 5 5 5 5 5"), (9, (5,) * 10))
        chance = random.Random(363)
        for land in some_lands(chance, 30) + some_lands(chance, 30, ring=True):
            state = some_state(chance, land)
            self.same(state_text(land, state), written(state))
            self.same(state_of(land, written(state)), state)

    def test_errors_of_the_state(self):
        for land in (LINE, THREE):
            for place in (-1, 3, FAR):
                self.refuses(BadPlace, place, state_text, land, (place, (9,)))
            self.refuses(BadState, 2, state_text, land, (0, (9, 9)))
            self.refuses(BadState, (1,), state_text, land, (0, (0, 2, 2)))
            self.refuses(BadState, (2,), state_text, land, (0, (0, 0, -1)))

    def test_by_name(self):
        self.same(state_text(state=(1, (0, 0)), land=WEE), "1: 0 0")
        self.same(state_of(text="1: 0 0", land=WEE), (1, (0, 0)))

    def test_the_land_stays_as_it_is(self):
        state_text(TREE, (0, ZERO))
        state_of(TREE, written((0, ZERO)))
        self.same(TREE.roads, TREE_ROADS)


class BadTextTest(Case):
    def test_wrong_texts(self):
        for text in ("", " ", ":", "1", "1:", "1: ", "1: 0", "1: 0 ", "1: 0 0 ", "1: 0 0 0", " 1: 0 0", "1 : 0 0",
                     "1:0 0", "1:  0 0", "1: 0  0", "1:  0", "1: 00 0", "01: 0 0", "+1: 0 0", "1: +0 0", "-1: 0 0",
                     "1: 0 -1", "2: 0 0", "1: 1 0", "1: 0 2", "1: 0 0\n", "\n1: 0 0", "1: 0\n0", "1: 0 0\n1: 0 0",
                     "1: 0 0\r", "1; 0 0", "1: 0,0", "1: 0\t0", "1 0 0", "1:: 0 0", "1: : 0 0", "1: 0: 0", "1: 0 0:",
                     "10: 0 0", "1: 0 10", "\u0661: 0 0", "1: 0 \u0660", "\u00b9: 0 0", "one: 0 0", "1: 0 x", "P: A B",
                     "1: 0 1_", "None: 0 0", "1: None 0", "1: 0.0 0", "1: 0 0 0 0 0 0 0 0 0", "1: " + "9" * 100000,
                     "9" * 100000):
            self.refuses(BadText, 0, state_of, WEE, text)

    def test_the_smallest_land(self):
        self.same(state_of(SPOT, "0: 0"), (0, (0,)))
        for text in ("0:", "0: ", "0", "", "1: 0", "0: 1", "0: 0 0", "0:0", "0:  "):
            self.refuses(BadText, 0, state_of, SPOT, text)

    def test_drawn_changes(self):
        chance = random.Random(364)
        for land in (SPOT, WEE, LINE, RINGED):
            known = {written(state): state for state in all_states(land)[:3000]}
            for _ in range(1500):
                text = written(some_state(chance, land))
                at = chance.randrange(len(text) + 1)
                text = text[:at] + chance.choice(("", " ", "0", "1", "2", ":", "9", "\n")) + \
                    text[at + chance.randrange(2):]
                place, _, row = text.partition(": ")
                digits = [place] + row.split(" ")
                right = all(len(digit) == 1 and digit in "0123456789" for digit in digits)
                state = (int(place), tuple(map(int, row.split(" ")))) if right else None
                limits = [lamp.many for lamp in land.lamps]
                if right and state[0] < land.many and len(state[1]) == len(limits) and all(
                        q < many for q, many in zip(state[1], limits)):
                    self.same(state_of(land, text), state)
                else:
                    self.assertNotIn(text, known)
                    self.refuses(BadText, 0, state_of, land, text)
