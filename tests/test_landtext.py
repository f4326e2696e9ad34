import itertools
import random

from lampwalks.errors import BadText
from lampwalks.lands import made_land
from lampwalks.landtext import land_of, land_text
from lampwalks.webmakers import alone, pair_web
from lampwalks.webs import made_web
from tests.helpers import (
    BUSHY, FOUR, LINE, LONG, RINGED, SPOT, THREE, TREE, TREE_ROADS, WEE, WIDE, Case, some_lands)

TWO = made_land(2, ((0, 1, 3),), (pair_web(1), alone()))
TEXT = "land 2\nroad 0 1 3\nlamp 2 0-1:1\nlamp 1"
NUMBERS = {str(k): k for k in range(101)}


def written(land):
    """The text of a land, row by row."""
    text = "land " + str(land.many)
    for x, y, length in land.roads:
        text += "\nroad " + str(x) + " " + str(y) + " " + str(length)
    for lamp in land.lamps:
        text += "\nlamp " + str(lamp.many)
        for p, q, length in lamp.roads:
            text += " " + str(p) + "-" + str(q) + ":" + str(length)
    return text


def reached(many, roads):
    """Whether roads lead from 0 to all points."""
    found = {0}
    for _ in range(many):
        found |= {y for x, y, _ in roads if x in found} | {x for x, y, _ in roads if y in found}
    return found == set(range(many))


def road_fits(road, many, roads):
    """Whether a triple of numbers can be the next one of the roads."""
    x, y, length = road
    return x < y < many and 1 <= length <= 100 and (not roads or (x, y) > roads[-1][:2])


def lamp_fits(words):
    """Whether the words behind "lamp" tell a web."""
    if not words or words[0] not in NUMBERS or not 1 <= NUMBERS[words[0]] <= 6:
        return False
    many, roads = NUMBERS[words[0]], []
    for word in words[1:]:
        parts = [part for half in word.split("-") for part in half.split(":")]
        if word.count("-") != 1 or word.count(":") != 1 or word.index("-") > word.index(":"):
            return False
        if any(part not in NUMBERS for part in parts):
            return False
        road = tuple(NUMBERS[part] for part in parts)
        if not road_fits(road, many, roads):
            return False
        roads.append(road)
    return reached(many, roads)


def judged(text):
    """The index that BadText must have for this text, None if it is the text of a land."""
    rows = [row.split(" ") for row in text.split("\n")]
    first = rows[0]
    if len(first) != 2 or first[0] != "land" or first[1] not in NUMBERS or not 1 <= NUMBERS[first[1]] <= 10:
        return 0
    many, roads, lamps = NUMBERS[first[1]], [], 0
    for i, words in enumerate(rows):
        if i == 0:
            continue
        if words[0] == "road" and lamps == 0 and len(words) == 4 and all(word in NUMBERS for word in words[1:]):
            road = tuple(NUMBERS[word] for word in words[1:])
            if not road_fits(road, many, roads):
                return i
            roads.append(road)
        elif words[0] == "lamp" and lamps < many and lamp_fits(words[1:]):
            lamps += 1
        else:
            return i
    if lamps < many or len(roads) > many or not reached(many, roads):
        return len(rows)
    return None


class WrittenTest(Case):
    def test_of_the_document(self):
        self.same(land_text(TWO), TEXT)
        self.assertEqual(land_of(TEXT), TWO)

    def test_the_smallest_land(self):
        self.same(land_text(SPOT), "land 1\nlamp 1")
        self.assertEqual(land_of("land 1\nlamp 1"), SPOT)

    def test_lands(self):
        chance = random.Random(361)
        lands = [SPOT, WEE, LINE, THREE, FOUR, TREE, RINGED, WIDE, LONG, BUSHY] + some_lands(chance, 60)
        for land in lands + some_lands(chance, 40, ring=True):
            self.same(land_text(land), written(land))
            read = land_of(written(land))
            self.assertEqual(read, land)
            self.same((read.many, read.roads), (land.many, land.roads))
            self.assertIs(type(read.lamps), tuple)
            for lamp, other in zip(read.lamps, land.lamps):
                self.same((lamp.many, lamp.roads), (other.many, other.roads))

    def test_by_name(self):
        self.same(land_text(land=TWO), TEXT)
        self.assertEqual(land_of(text=TEXT), TWO)

    def test_the_land_stays_as_it_is(self):
        land_text(TREE)
        self.same(TREE.roads, TREE_ROADS)


class BadTextTest(Case):
    def bad(self, index, *rows):
        text = "\n".join(rows)
        self.assertEqual(judged(text), index, text)
        self.refuses(BadText, index, land_of, text)

    def test_the_first_row(self):
        for row in ("", "land", "land ", "land 0", "land 11", "land 100", "land 101", "land 02", "land +2", "land -2",
                    "land 2 ", " land 2", "land  2", "Land 2", "lands 2", "land two", "land 2.0", "land 2 3", "2",
                    "road 0 1 3", "lamp 1", "land 2\r", "land\t2", "land \u0662", "land \u00b2", "land 1_0",
                    "land 1e0"):
            self.bad(0, row, "road 0 1 3", "lamp 2 0-1:1", "lamp 1")
            self.bad(0, row)
            self.bad(0, row, "what")

    def test_the_empty_text(self):
        self.refuses(BadText, 0, land_of, "")
        self.refuses(BadText, 0, land_of, "\n")
        self.refuses(BadText, 0, land_of, "\n" + TEXT)

    def test_places(self):
        self.assertEqual(land_of("land 1\nlamp 1").many, 1)
        for many in (9, 10, 11):
            rows = ["land " + str(many)] + [f"road {x} {x + 1} 1" for x in range(many - 1)] + ["lamp 1"] * many
            if many <= 10:
                self.assertEqual(land_of("\n".join(rows)).many, many)
            else:
                self.bad(0, *rows)

    def test_a_road_row(self):
        for row in ("road 0 1", "road 0 1 3 ", "road 0 1 3 4", "road  0 1 3", "road 0 1 03", "road 0 1 +3",
                    "road 00 1 3", "road 0 1 0", "road 0 1 101", "road 0 1 1000", "road 1 0 3", "road 1 1 3",
                    "road 0 2 3", "road 0 1 -3", "road -1 1 3", "Road 0 1 3", "roads 0 1 3", "road", "", " ", "land 2",
                    "road 0-1:3", "road 0 1 \u0663", "road 0 1 3\r", "road\t0\t1\t3", "road 0 1 three", "what"):
            self.bad(1, "land 2", row, "lamp 2 0-1:1", "lamp 1")
            self.bad(1, "land 2", row)
            self.bad(1, "land 2", row, "what")

    def test_the_order_of_roads(self):
        lamps = ("lamp 1",) * 3
        self.assertEqual(land_of("\n".join(("land 3", "road 0 1 1", "road 0 2 1") + lamps)).many, 3)
        self.bad(2, "land 3", "road 0 2 1", "road 0 1 1", *lamps)
        self.bad(2, "land 3", "road 0 1 1", "road 0 1 1", *lamps)
        self.bad(2, "land 3", "road 0 1 1", "road 0 1 2", *lamps)
        self.bad(3, "land 3", "road 0 1 1", "road 1 2 2", "road 0 2 1", *lamps)
        self.bad(3, "land 3", "road 0 1 1", "road 1 2 2", "road 2 3 1", *lamps)

    def test_a_lamp_row(self):
        for row in ("lamp", "lamp ", "lamp 0", "lamp 7", "lamp 2", "lamp 2 ", "lamp 2 0-1:0", "lamp 2 0-1:101",
                    "lamp 2 0-1:01", "lamp 2 1-0:1", "lamp 2 0-0:1", "lamp 2 0-2:1", "lamp 2 0-1", "lamp 2 0:1",
                    "lamp 2 0:1-1", "lamp 2 0-1:1 ", "lamp 2  0-1:1", " lamp 2 0-1:1", "lamp 2 0-1:1 0-1:1",
                    "lamp 2 0-1:1 1-0:1", "lamp 2 0-1:+1", "lamp 2 +0-1:1", "lamp 2 00-1:1", "lamp 2 0--1:1",
                    "lamp 2 0-1::1", "lamp 2 0-1:1:1", "lamp 2 0-1-1:1", "lamp 2 -1:1", "lamp 2 0-:1", "lamp 2 0-1:",
                    "lamp 02 0-1:1", "lamp 2 0 1 1", "lamp 2 0-1 :1", "Lamp 2 0-1:1", "lamps 2 0-1:1", "lamp 3 0-1:1",
                    "lamp 3 0-2:1 0-1:1", "lamp 4 0-1:1 2-3:1", "lamp 1 0-1:1", "lamp 1 ", "", " ", "land 2",
                    "lamp 2 0-1:\u0661", "lamp 2 0-1:1\r", "lamp two 0-1:1", "lamp 2 0-1:1,", "what", "lamp 1 x"):
            self.bad(2, "land 2", "road 0 1 3", row, "lamp 1")
            self.bad(3, "land 2", "road 0 1 3", "lamp 1", row)
            self.bad(2, "land 2", "road 0 1 3", row)
            self.bad(2, "land 2", "road 0 1 3", row, "what")

    def test_a_road_behind_a_lamp(self):
        self.bad(2, "land 2", "lamp 1", "road 0 1 3", "lamp 1")
        self.bad(3, "land 2", "lamp 1", "lamp 1", "road 0 1 3")
        self.bad(4, "land 2", "road 0 1 3", "lamp 1", "lamp 1", "road 0 1 3")

    def test_missing_rows(self):
        rows = TEXT.split("\n")
        for many in range(1, 4):
            self.bad(many, *rows[:many])
        self.bad(3, *(rows[:3] + [""]))
        self.bad(1, "land 1")
        self.bad(2, "land 2", "lamp 1")

    def test_rows_too_many(self):
        rows = TEXT.split("\n")
        for row in ("", "lamp 1", "what", "road 0 1 3", "land 2"):
            self.bad(4, *(rows + [row]))
            self.bad(4, *(rows + [row, "what"]))
        self.refuses(BadText, 4, land_of, TEXT + "\n")
        # the row too many comes ahead of what is wrong with all rows together
        self.bad(3, "land 2", "lamp 1", "lamp 1", "lamp 1")

    def test_all_roads_together(self):
        lamps = ["lamp 1"] * 4
        roads = [f"road {x} {y} 1" for x, y in itertools.combinations(range(4), 2)]
        self.assertEqual(len(land_of("\n".join(["land 4"] + roads[:4] + lamps)).roads), 4)
        self.assertEqual(len(land_of("\n".join(["land 4"] + roads[:3] + lamps)).roads), 3)
        self.bad(7, "land 4", *roads[:2], *lamps)
        self.bad(10, "land 4", *roads[:5], *lamps)
        self.bad(11, "land 4", *roads, *lamps)
        # four roads of which one place is left out
        self.bad(8, "land 4", roads[0], roads[1], roads[3], *lamps)
        self.bad(3, "land 2", *["lamp 1"] * 2)
        # a bad lamp comes first
        self.bad(10, "land 4", *roads, *lamps[:3], "lamp 0")
        self.bad(10, "land 4", *roads, *lamps[:3])

    def test_carried_lines(self):
        self.refuses(BadText, 0, land_of, TEXT.replace("\n", "\r\n"))
        self.refuses(BadText, 0, land_of, TEXT.replace("\n", "\x0b"))
        self.refuses(BadText, 0, land_of, TEXT.replace("\n", " "))
        self.refuses(BadText, 1, land_of, TEXT.replace("\n", "\n\n"))

    def test_drawn_changes(self):
        chance = random.Random(362)
        texts = [written(land) for land in [SPOT, WEE, THREE, FOUR] + some_lands(chance, 12, most=5)]
        read = 0
        for _ in range(6000):
            text = chance.choice(texts)
            for _ in range(chance.choice((1, 1, 2))):
                text = self.changed(chance, text)
            index = judged(text)
            if index is None:
                read += 1
                self.same(land_text(land_of(text)), text)
            else:
                self.refuses(BadText, index, land_of, text)
        self.assertGreater(read, 50)

    def changed(self, chance, text):
        """The text with a sign, a word or a row changed, put in or left out."""
        apart = chance.choice(("", " ", "\n"))
        parts = text.split(apart) if apart else list(text)
        new = {"": list("0123456789 -:\nroadlmp+\r"), " ": ["0", "1", "2", "00", "road", "lamp", "0-1:1", "", "101"],
               "\n": ["road 0 1 1", "road 1 2 5", "lamp 1", "lamp 2 0-1:1", "land 2", "", "lamp 2"]}[apart]
        at = chance.randrange(len(parts) + 1)
        way = chance.randrange(4)
        if way == 0:
            parts.insert(at, chance.choice(new))
        elif way == 1:
            parts[at:at + 1] = []
        elif way == 2:
            parts[at:at + 1] = [chance.choice(new)]
        else:
            other = chance.randrange(len(parts))
            at = at % len(parts)
            parts[at], parts[other] = parts[other], parts[at]
        return apart.join(parts)

    def test_a_web_that_is_none_by_its_roads(self):
        web = made_web(3, ((0, 1, 1), (0, 2, 1)))
        self.assertEqual(land_of("land 1\nlamp 3 0-1:1 0-2:1").lamps[0], web)
        self.bad(1, "land 1", "lamp 3 0-2:1 0-1:1")
        self.bad(1, "land 1", "lamp 3 0-1:1 0-1:1 0-2:1")

    def test_great_texts(self):
        self.refuses(BadText, 1, land_of, "\n".join(["land 2"] + ["x"] * 100000))
        self.refuses(BadText, 4, land_of, TEXT + "\nlamp 1" * 100000)
        self.refuses(BadText, 1, land_of, "land 2\n" + "road " * 100000)
        self.refuses(BadText, 1, land_of, "land 1\nlamp " + "9" * 100000)
