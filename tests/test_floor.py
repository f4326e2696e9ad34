import random

from lampwalks.errors import BadDeed, BadPlace, BadPurse, BadState, Dear, NothingToRedo, NothingToUndo, TooMany
from lampwalks.floor import Floor
from lampwalks.lands import made_land
from lampwalks.webmakers import line_web, pair_web
from tests.helpers import (
    LINE, RINGED, RINGED_ROADS, SPOT, THREE, FloorCase, begun, some_deed, some_lands, some_state, told)

FAR = 10 ** 30
START = (1, (0, 0, 0))


class BeginningTest(FloorCase):
    def test_a_floor_at_its_beginning(self):
        for purse in (0, 1, 10 ** 9):
            for land, state in ((LINE, START), (SPOT, (0, (0,))), (THREE, (2, (1, 1, 0)))):
                self.same(told(Floor(land, state, purse)), (state, purse, state, 0, ()))

    def test_errors(self):
        for purse in (0, -1, 10 ** 9 + 1, FAR):
            self.refuses(BadPlace, 3, Floor, LINE, (3, (9,)), purse)
            self.refuses(BadState, 2, Floor, LINE, (1, (9, 9)), purse)
            self.refuses(BadState, (1,), Floor, LINE, (1, (0, 2, 2)), purse)
            self.refuses(BadPlace, -1, Floor, THREE, (-1, ()), purse)
        for purse in (-1, -FAR, 10 ** 9 + 1, FAR):
            self.refuses(BadPurse, purse, Floor, LINE, START, purse)
            self.refuses(BadPurse, purse, Floor, THREE, (0, (0, 0, 0)), purse)

    def test_by_name(self):
        floor = Floor(purse=5, state=START, land=LINE)
        floor.go(y=2)
        floor.turn(q=1)
        floor.earn(k=9)
        self.same(told(floor), ((2, (0, 0, 1)), 12, START, 2, (("go", 2), ("turn", 1), ("earn", 9))))

    def test_two_floors(self):
        one, two = Floor(LINE, START, 5), Floor(LINE, START, 5)
        one.go(2)
        one.mark()
        self.same(told(two), (START, 5, START, 0, ()))
        two.earn(1)
        self.same(told(one), ((2, (0, 0, 0)), 4, (2, (0, 0, 0)), 1, (("go", 2), ("mark",))))


class DeedsTest(FloorCase):
    def test_all_kinds(self):
        floor = Floor(LINE, START, 3)
        self.assertIsNone(floor.go(0))
        self.assertIsNone(floor.turn(1))
        self.same(told(floor), ((0, (1, 0, 0)), 1, START, 2, (("go", 0), ("turn", 1))))
        self.assertIsNone(floor.mark())
        self.same(floor.marked(), (0, (1, 0, 0)))
        self.assertIsNone(floor.earn(10 ** 6))
        self.same(floor.purse(), 10 ** 6 + 1)
        self.same(floor.spent(), 2)
        self.same(floor.record(), (("go", 0), ("turn", 1), ("mark",), ("earn", 10 ** 6)))
        self.assertIsNone(floor.undo())
        self.assertIsNone(floor.undo())
        self.same(told(floor), ((0, (1, 0, 0)), 1, START, 2, (("go", 0), ("turn", 1))))
        self.assertIsNone(floor.redo())
        self.same(told(floor), ((0, (1, 0, 0)), 1, (0, (1, 0, 0)), 2, (("go", 0), ("turn", 1), ("mark",))))

    def test_undo_of_the_mark(self):
        floor = Floor(LINE, START, 9)
        floor.go(0)
        floor.mark()
        floor.go(1)
        floor.mark()
        floor.undo()
        self.same(floor.marked(), (0, (0, 0, 0)))
        floor.undo()
        floor.undo()
        self.same(floor.marked(), START)

    def test_undo_and_redo_at_their_ends(self):
        floor, plain = begun(LINE, START, 9)
        self.both(floor, plain, "undo")
        self.both(floor, plain, "redo")
        self.refuses(NothingToUndo, 0, floor.undo)
        self.refuses(NothingToRedo, 0, floor.redo)
        for word, number in (("go", 0), ("turn", 1), ("earn", 4), ("mark", None)):
            self.both(floor, plain, word, number)
            self.both(floor, plain, "redo")
        for _ in range(6):
            self.both(floor, plain, "undo")
        for _ in range(6):
            self.both(floor, plain, "redo")

    def test_a_new_deed_behind_an_undone_one(self):
        for word, number in (("go", 2), ("turn", 1), ("earn", 4), ("mark", None)):
            floor, plain = begun(LINE, START, 9)
            self.both(floor, plain, "go", 0)
            self.both(floor, plain, "go", 1)
            self.both(floor, plain, "undo")
            self.both(floor, plain, "undo")
            self.both(floor, plain, word, number)
            self.refuses(NothingToRedo, 0, floor.redo)
            self.both(floor, plain, "undo")
            self.both(floor, plain, "redo")
            self.refuses(NothingToRedo, 0, floor.redo)

    def test_a_refused_deed_leaves_what_can_be_redone(self):
        floor, plain = begun(LINE, START, 2)
        for word, number in (("go", 0), ("turn", 1), ("undo", None), ("undo", None), ("go", 1), ("go", 3), ("turn", 2),
                             ("earn", 0), ("redo", None), ("go", 2), ("redo", None), ("go", 1), ("redo", None)):
            self.both(floor, plain, word, number)
        self.same(floor.record(), (("go", 0), ("turn", 1)))

    def test_all_undone_and_redone(self):
        chance = random.Random(371)
        for land in some_lands(chance, 20) + some_lands(chance, 20, ring=True) + [SPOT, LINE, THREE, RINGED]:
            floor, plain = begun(land, some_state(chance, land), chance.choice((0, 100, 1000, 10 ** 9)))
            for _ in range(150):
                self.both(floor, plain, *some_deed(chance, land, floor.state()))
            last = told(floor)
            many = len(last[4])
            rows = [told(floor)]
            for _ in range(many):
                self.both(floor, plain, "undo")
                rows.append(told(floor))
            self.refuses(NothingToUndo, 0, floor.undo)
            self.same(rows[-1][3:], (0, ()))
            for before in rows[-2::-1]:
                self.both(floor, plain, "redo")
                self.same(told(floor), before)
            self.same(told(floor), last)

    def test_lands_stay_as_they_are(self):
        floor = Floor(RINGED, (0, (0,) * 8), 100)
        floor.go(4)
        floor.undo()
        self.same(RINGED.roads, RINGED_ROADS)

    def test_what_was_returned_stays(self):
        floor = Floor(LINE, START, 9)
        floor.go(0)
        before = told(floor)
        kept = ((0, (0, 0, 0)), 8, START, 1, (("go", 0),))
        for word, number in (("turn", 1), ("mark", None), ("earn", 7), ("undo", None), ("undo", None), ("redo", None)):
            getattr(floor, word)(*(() if number is None else (number,)))
            self.same(before, kept)


class RefusedTest(FloorCase):
    def test_go(self):
        floor, plain = begun(LINE, (0, (0, 0, 0)), 5)
        for y in (-1, 3, FAR, -FAR):
            self.refuses(BadDeed, 1, floor.go, y)
            self.both(floor, plain, "go", y)
        for y in (0, 2):
            self.refuses(BadDeed, 2, floor.go, y)
            self.both(floor, plain, "go", y)

    def test_turn(self):
        floor, plain = begun(made_land(1, (), (line_web(3, 1),)), (0, (0,)), 5)
        for q in (-1, 3, FAR, -FAR):
            self.refuses(BadDeed, 1, floor.turn, q)
            self.both(floor, plain, "turn", q)
        for q in (0, 2):
            self.refuses(BadDeed, 2, floor.turn, q)
            self.both(floor, plain, "turn", q)
        self.both(floor, plain, "turn", 1)

    def test_dear(self):
        land = made_land(2, ((0, 1, 7),), (pair_web(4), pair_web(4)))
        for purse, word, price in ((6, "go", 7), (0, "go", 7), (3, "turn", 4), (0, "turn", 4)):
            floor, plain = begun(land, (0, (0, 0)), purse)
            self.refuses(Dear, price, getattr(floor, word), 1)
            self.both(floor, plain, word, 1)
            # what is no deed at all comes first
            self.refuses(BadDeed, 1, getattr(floor, word), 2)
            self.refuses(BadDeed, 2, getattr(floor, word), 0)
        for purse, word in ((7, "go"), (4, "turn")):
            floor, plain = begun(land, (0, (0, 0)), purse)
            self.both(floor, plain, word, 1)
            self.same(floor.purse(), 0)

    def test_earn(self):
        floor, plain = begun(LINE, START, 0)
        for k in (0, -1, -FAR, 10 ** 6 + 1, FAR):
            self.refuses(BadPurse, k, floor.earn, k)
            self.both(floor, plain, "earn", k)
        for k in (1, 10 ** 6):
            self.both(floor, plain, "earn", k)

    def test_a_purse_beyond_its_greatest_beginning(self):
        floor = Floor(LINE, START, 10 ** 9)
        for _ in range(300):
            floor.earn(10 ** 6)
        self.same(floor.purse(), 10 ** 9 + 3 * 10 ** 8)

    def test_300_deeds(self):
        for word, number in (("go", 0), ("turn", 1), ("earn", 5), ("mark", None)):
            floor, plain = begun(LINE, START, 151)
            for k in range(150):
                self.both(floor, plain, "go", (2, 1)[k % 2])
                self.both(floor, plain, "mark")
            self.same(len(floor.record()), 300)
            self.refuses(TooMany, 301, getattr(floor, word), *(() if number is None else (number,)))
            self.both(floor, plain, word, number)
            # 299 stand, and one of them can be redone
            self.both(floor, plain, "undo")
            self.both(floor, plain, "redo")
            self.refuses(TooMany, 301, getattr(floor, word), *(() if number is None else (number,)))
            self.both(floor, plain, "undo")
            self.both(floor, plain, word, number)
            self.same(len(floor.record()), 300)
            self.both(floor, plain, "mark")

    def test_the_order_with_300_deeds(self):
        floor, plain = begun(LINE, START, 0)
        for _ in range(300):
            floor.mark()
            plain.do("mark", None)
        self.refuses(BadDeed, 1, floor.go, 3)
        self.refuses(BadDeed, 2, floor.go, 1)
        self.refuses(BadDeed, 1, floor.turn, 2)
        self.refuses(BadDeed, 2, floor.turn, 0)
        self.refuses(Dear, 1, floor.go, 0)
        self.refuses(Dear, 1, floor.turn, 1)
        self.refuses(BadPurse, 0, floor.earn, 0)
        self.refuses(BadPurse, 10 ** 6 + 1, floor.earn, 10 ** 6 + 1)
        self.refuses(TooMany, 301, floor.earn, 1)
        self.refuses(TooMany, 301, floor.mark)
        self.refuses(NothingToRedo, 0, floor.redo)
        self.tell(floor, plain)
        for _ in range(300):
            self.both(floor, plain, "undo")
        self.both(floor, plain, "undo")
