import random

from lampwalks.errors import BadDeed, BadPurse, BadWord, Dear, NothingToRedo, NothingToUndo, TooMany
from lampwalks.floor import Floor
from lampwalks.saysfloor import answer, asked
from tests.helpers import (
    FOUR, LINE, LONG, SMALL_WEBS, SPOT, THREE, FloorCase, begun, least_costs, some_deed, some_lands, some_state, told)

START = (1, (0, 0, 0))


def text_of(state):
    return " ".join([str(state[0]) + ":"] + [str(q) for q in state[1]])


class AnswerTest(FloorCase):
    def test_all_rows(self):
        floor = Floor(LINE, START, 3)
        for row, wanted in (("state", "1: 0 0 0"), ("purse", "3"), ("home", "yes"), ("go 0", "ok"), ("turn 1", "ok"),
                            ("state", "0: 1 0 0"), ("purse", "1"), ("home", "no"), ("earn 1", "ok"), ("home", "yes"),
                            ("purse", "2"), ("undo", "ok"), ("home", "no"), ("redo", "ok"), ("home", "yes"),
                            ("mark", "ok"), ("go 1", "ok"), ("home", "yes"), ("purse", "1")):
            self.same(answer(floor, row), wanted)
        self.same(told(floor), ((1, (1, 0, 0)), 1, (0, (1, 0, 0)), 3,
                                (("go", 0), ("turn", 1), ("earn", 1), ("mark",), ("go", 1))))

    def test_number_words(self):
        for x in range(10):
            floor = Floor(LONG, (max(x - 1, 0) if x != 0 else 1, (0,) * 10), 10 ** 9)
            self.same(answer(floor, "go " + str(x)), "ok")
            self.same(floor.state()[0], x)
        for q in range(6):
            floor = Floor(LONG, (3, (q - 1 if q else 1,) * 10), 10 ** 9)
            self.same(answer(floor, "turn " + str(q)), "ok")
            self.same(floor.state()[1][3], q)
        floor = Floor(LINE, START, 9)
        for x in range(3, 10):
            self.refuses(BadDeed, 1, answer, floor, "go " + str(x))
            self.refuses(BadDeed, 1, answer, floor, "turn " + str(x))

    def test_earn(self):
        floor = Floor(LINE, START, 0)
        for word in ("1", "7", "10", "999", "1000", "100000", "1000000"):
            before = floor.purse()
            self.same(answer(floor, "earn " + word), "ok")
            self.same(answer(floor, "purse"), str(before + int(word)))
        for word in ("0", "1000001", "9999999"):
            self.refuses(BadPurse, int(word), answer, floor, "earn " + word)
        for word in ("00", "01", "0000000", "10000000", "12345678", "00000001", "", "+1", "-1", "1.0", "1_0", "1 ",
                     " 1", "1 1", "x", "\u0661", "\u00b9", "1\n", "9" * 10000):
            self.refuses(BadWord, "earn " + word, answer, floor, "earn " + word)

    def test_what_the_floor_raises(self):
        floor, plain = begun(LINE, START, 0)
        for row, kind, what in (("undo", NothingToUndo, 0), ("redo", NothingToRedo, 0), ("go 3", BadDeed, 1),
                                ("go 1", BadDeed, 2), ("go 0", Dear, 1), ("turn 2", BadDeed, 1), ("turn 0", BadDeed, 2),
                                ("turn 1", Dear, 1), ("earn 0", BadPurse, 0), ("earn 1000001", BadPurse, 1000001)):
            self.refuses(kind, what, answer, floor, row)
            self.tell(floor, plain)
        for _ in range(300):
            self.same(answer(floor, "mark"), "ok")
        for row in ("mark", "earn 1"):
            self.refuses(TooMany, 301, answer, floor, row)
        self.refuses(Dear, 1, answer, floor, "go 0")
        self.refuses(BadWord, "mark ", answer, floor, "mark ")
        self.same(len(floor.record()), 300)

    def test_a_great_purse(self):
        floor = Floor(LINE, START, 10 ** 9)
        self.same(answer(floor, "purse"), "1000000000")
        self.same(answer(floor, "earn 1000000"), "ok")
        self.same(answer(floor, "purse"), "1001000000")

    def test_beside_plain_rows(self):
        chance = random.Random(381)
        lands = some_lands(chance, 15, most=5, lamps=SMALL_WEBS[1:4])
        lands += some_lands(chance, 15, ring=True, most=4, lamps=SMALL_WEBS[1:4])
        for land in lands:
            floor, plain = begun(land, some_state(chance, land), chance.choice((0, 50, 200)))
            for _ in range(60):
                word, number = some_deed(chance, land, floor.state())
                if word == "earn" or number is None or 0 <= number <= 9:
                    self.say(floor, plain, word, number)
            state, purse, mark, _ = plain.now
            least = least_costs(land, state)[mark]
            self.same(answer(floor, "state"), text_of(state))
            self.same(answer(floor, "purse"), str(purse))
            self.same(answer(floor, "home"), "yes" if purse >= least else "no")
            self.same(asked(floor, "price"), str(least))
            self.tell(floor, plain)

    def say(self, floor, plain, word, number):
        """Says a deed, and checks that it is done or refused as by the plain rows."""
        row = word if number is None else word + " " + str(number)
        error = plain.refusal(word, number)
        if word == "earn" and not 0 <= number <= 9999999:
            error = BadWord, row
        if error is None:
            self.same(answer(floor, row), "ok")
            plain.do(word, number)
        else:
            self.refuses(*error, answer, floor, row)
        self.tell(floor, plain)


class AskedTest(FloorCase):
    def test_a_tree(self):
        floor = Floor(LINE, START, 6)
        self.same(asked(floor, "price"), "0")
        self.same(asked(floor, "way"), "")
        for row in ("go 0", "turn 1"):
            answer(floor, row)
        self.same(asked(floor, "price"), "2")
        self.same(asked(floor, "way"), "turn 0;go 1")
        for row in ("go 1", "go 2"):
            answer(floor, row)
        self.same(asked(floor, "price"), "4")
        self.refuses(Dear, 4, asked, floor, "way")
        answer(floor, "earn 2")
        self.same(asked(floor, "way"), "go 1;go 0;turn 0;go 1")

    def test_one_deed(self):
        floor = Floor(SPOT, (0, (0,)), 6)
        self.same(asked(floor, "way"), "")
        floor = Floor(LINE, START, 6)
        floor.go(2)
        self.same(asked(floor, "way"), "go 1")

    def test_a_ring(self):
        floor = Floor(FOUR, (0, (0, 0, 0, 0)), 20)
        for row in ("go 1", "go 2", "go 3"):
            answer(floor, row)
        self.same(asked(floor, "price"), "1")
        self.same(asked(floor, "way"), "go 0")


class BadWordTest(FloorCase):
    ROWS = ("", " ", "go", "go ", "go  1", " go 1", "go 1 ", "go 10", "go 01", "go 00", "go +1", "go -1", "go 1 2",
            "Go 1", "GO 1", "goes 1", "turn", "turn ", "turn  1", "turn 1 ", "turn 10", "turn 01", "turn\t1",
            "turn one", "go \u0661", "go \u00b2", "go 1\n", "go 1\r", "\ngo 1", "go 1\ngo 2", "go 1;go 2", "earn",
            "earn ", "earn  1", "earn one", "mark 1", "mark ", " mark", "Mark", "marks", "undo 1", "undo ", "redo 0",
            " redo", "state ", "State", "state 1", "purse ", "purses", "home ", "home?", "ok", "spent", "record",
            "marked", "in_reach", "best_for", "way home", "go way", "x" * 100000)

    def test_answer(self):
        floor, plain = begun(LINE, START, 9)
        floor.go(0)
        plain.do("go", 0)
        for row in self.ROWS + ("price", "way"):
            self.refuses(BadWord, row, answer, floor, row)
            self.tell(floor, plain)

    def test_asked(self):
        floor, plain = begun(LINE, START, 9)
        for row in self.ROWS + ("state", "purse", "home", "mark", "undo", "redo", "go 0", "turn 1", "earn 1", "price ",
                                " price", "Price", "price 1", "way ", " way", "ways", "way;", "way\n"):
            self.refuses(BadWord, row, asked, floor, row)
            self.tell(floor, plain)

    def test_a_bad_word_leaves_what_can_be_redone(self):
        floor = Floor(LINE, START, 9)
        floor.go(0)
        floor.undo()
        self.refuses(BadWord, "go", answer, floor, "go")
        self.same(answer(floor, "redo"), "ok")

    def test_a_bad_word_comes_ahead_of_all_else(self):
        floor = Floor(THREE, (0, (0, 0, 0)), 0)
        for _ in range(300):
            floor.mark()
        self.refuses(BadWord, "go 10", answer, floor, "go 10")
        self.refuses(BadWord, "earn 00", answer, floor, "earn 00")

    def test_by_name(self):
        floor = Floor(LINE, START, 9)
        self.same(answer(floor=floor, row="purse"), "9")
        self.same(asked(row="price", floor=floor), "0")
