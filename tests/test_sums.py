from lampwalks.errors import BadCount
from lampwalks.sums import choose
from tests.helpers import Case


class ChooseTest(Case):
    def test_small(self):
        self.same(choose(4, 2), 6)
        self.same(choose(5, 1), 5)
        self.same(choose(10, 3), 120)

    def test_nothing_to_choose_from(self):
        self.same(choose(0, 0), 1)
        self.same(choose(0, 1), 0)
        self.same(choose(0, -1), 0)

    def test_all_rows_up_to_400(self):
        row = [1]
        for a in range(401):
            self.assertEqual([choose(a, b) for b in range(a + 1)], row)
            row = [1] + [x + y for x, y in zip(row, row[1:])] + [1]

    def test_beside_the_row(self):
        for a in (0, 1, 5, 399, 400):
            for b in (-10 ** 30, -401, -2, -1, a + 1, a + 2, 401, 402, 10 ** 30):
                if not 0 <= b <= a:
                    self.same(choose(a, b), 0)

    def test_the_greatest_row(self):
        self.same(choose(400, 0), 1)
        self.same(choose(400, 1), 400)
        self.same(choose(400, 2), 79800)
        self.same(choose(400, 399), 400)
        self.same(choose(400, 400), 1)
        self.same(choose(400, 401), 0)

    def test_out_of_range(self):
        for a in (-1, -400, 401, 402, 10 ** 30, -10 ** 30):
            for b in (-1, 0, 1, 401, a):
                self.refuses(BadCount, a, choose, a, b)
