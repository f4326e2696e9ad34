import random

from lampwalks.errors import BadDeed, BadText, TooMany
from lampwalks.runtext import run_of, run_text
from tests.helpers import ODD, Case

FAR = 10 ** 30
DEEDS = tuple((word, x) for word in ("go", "turn") for x in range(10))


def written(run):
    return "\n".join([deed[0] + " " + str(deed[1]) for deed in run])


class WrittenTest(Case):
    def test_ordinary(self):
        self.same(run_text((("go", 0), ("turn", 1), ("go", 9))), "go 0\nturn 1\ngo 9")
        self.same(run_of("go 0\nturn 1\ngo 9"), (("go", 0), ("turn", 1), ("go", 9)))

    def test_the_empty_run(self):
        self.same(run_text(()), "")
        self.same(run_of(""), ())

    def test_each_deed(self):
        for deed in DEEDS:
            self.same(run_text((deed,)), written((deed,)))
            self.same(run_of(written((deed,))), (deed,))

    def test_drawn_runs(self):
        chance = random.Random(365)
        for _ in range(200):
            run = tuple(chance.choice(DEEDS) for _ in range(chance.randint(0, 30)))
            self.same(run_text(run), written(run))
            self.same(run_of(written(run)), run)

    def test_2000_deeds(self):
        run = DEEDS * 100
        self.same(self.quick(1, run_text, run), written(run))
        self.same(self.quick(1, run_of, written(run)), run)

    def test_by_name(self):
        self.same(run_text(run=DEEDS), written(DEEDS))
        self.same(run_of(text="go 3"), (("go", 3),))


class BadDeedTest(Case):
    def test_too_many(self):
        for many in (2001, 2002, 5000):
            self.refuses(TooMany, many, run_text, (("go", 0),) * many)
            self.refuses(TooMany, many, run_text, ("what",) * many)

    def test_entries_that_are_no_deeds(self):
        for thing in ODD + (("go", 10), ("go", -1), ("turn", 10), ("turn", FAR), ("go", -FAR), ("earn", 1)):
            self.refuses(BadDeed, (0, 0), run_text, (thing,))
            self.refuses(BadDeed, (0, 0), run_text, (thing, thing))
            self.refuses(BadDeed, (2, 0), run_text, (("go", 0), ("turn", 9), thing, ("go", 1)))
        self.refuses(BadDeed, (1999, 0), run_text, (("go", 0),) * 1999 + (("go", 10),))


class BadTextTest(Case):
    ROWS = ("", " ", "go", "go ", "go  1", " go 1", "go 1 ", "go 10", "go 01", "go +1", "go -1", "go 1 2", "Go 1",
            "GO 1", "gone 1", "turn", "turn  0", "turn 0 ", "turn 10", "turn 00", "turn\t1", "go 1\r", "earn 1",
            "mark", "1", "x", "go \u0661", "go \u00b9", "go one", "go 1;turn 1", "undo", "go1", "go:1",
            "go " + "9" * 10000)

    def test_bad_rows(self):
        for row in self.ROWS:
            self.refuses(BadText, 0, run_of, row or "\n")
            self.refuses(BadText, 0, run_of, row + "\nwhat")
            self.refuses(BadText, 0, run_of, row + "\ngo 1")
            self.refuses(BadText, 1, run_of, "go 1\n" + row)
            self.refuses(BadText, 2, run_of, "go 1\nturn 2\n" + row + "\n" + row)

    def test_line_feeds(self):
        self.refuses(BadText, 0, run_of, "\n")
        self.refuses(BadText, 0, run_of, "\ngo 1")
        self.refuses(BadText, 1, run_of, "go 1\n")
        self.refuses(BadText, 1, run_of, "go 1\n\ngo 1")
        self.refuses(BadText, 0, run_of, "go 1\r\ngo 1")
        self.refuses(BadText, 0, run_of, "go 1\x0bgo 1")

    def test_too_many_rows(self):
        self.refuses(TooMany, 2001, run_of, "\n".join(["go 1"] * 2001))
        self.refuses(TooMany, 2001, run_of, "\n" * 2000)
        self.refuses(TooMany, 2001, run_of, "\n".join(["go 1"] * 2000) + "\n")
        self.refuses(TooMany, 100000, run_of, "\n".join(["what"] * 100000))
        self.refuses(BadText, 0, run_of, "\n" * 1999)
        self.refuses(BadText, 1999, run_of, "\n".join(["go 1"] * 1999) + "\n")
