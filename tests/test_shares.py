from fractions import Fraction

from lampwalks.errors import BadCount
from lampwalks.shares import mean, plus, share, times
from tests.helpers import Case


def pair(fraction):
    return (fraction.numerator, fraction.denominator)


class ShareTest(Case):
    def test_lowest_terms(self):
        self.same(share(6, 4), (3, 2))
        self.same(share(3, 2), (3, 2))
        self.same(share(7, 7), (1, 1))
        self.same(share(5, 1), (5, 1))
        self.same(share(1, 5), (1, 5))
        self.same(share(10, 5), (2, 1))

    def test_signs(self):
        self.same(share(-6, 4), (-3, 2))
        self.same(share(6, -4), (-3, 2))
        self.same(share(-6, -4), (3, 2))
        self.same(share(1, -1), (-1, 1))

    def test_nothing(self):
        for d in (1, 5, -1, -5, 10 ** 50, -10 ** 50):
            self.same(share(0, d), (0, 1))

    def test_very_great_parts(self):
        self.same(share(10 ** 40, 4 * 10 ** 39), (5, 2))
        self.same(share(3 * 2 ** 200, -2 ** 201), (-3, 2))
        self.assertTrue(share(10 ** 5000, 10 ** 4999) == (10, 1))
        self.same(share(10 ** 30 + 1, 10 ** 30), (10 ** 30 + 1, 10 ** 30))

    def test_many(self):
        for n in range(-12, 13):
            for d in range(-12, 13):
                if d != 0:
                    self.same(share(n, d), pair(Fraction(n, d)))

    def test_over_nothing(self):
        self.refuses(BadCount, 0, share, 1, 0)
        self.refuses(BadCount, 0, share, 0, 0)
        self.refuses(BadCount, 0, share, -10 ** 30, 0)


class SumsOfSharesTest(Case):
    def test_plus(self):
        self.same(plus((1, 2), (1, 3)), (5, 6))
        self.same(plus((1, 6), (1, 3)), (1, 2))
        self.same(plus((1, 2), (1, 2)), (1, 1))
        self.same(plus((1, 2), (-1, 2)), (0, 1))
        self.same(plus((0, 1), (-7, 9)), (-7, 9))
        self.same(plus((1, 10 ** 30), (1, 10 ** 30)), (1, 5 * 10 ** 29))

    def test_times(self):
        self.same(times((2, 3), (3, 4)), (1, 2))
        self.same(times((0, 1), (5, 7)), (0, 1))
        self.same(times((-2, 3), (-3, 2)), (1, 1))
        self.same(times((-2, 3), (1, 2)), (-1, 3))
        self.same(times((10 ** 30, 1), (1, 10 ** 31)), (1, 10))

    def test_many(self):
        shares = [Fraction(n, d) for n in range(-4, 5) for d in (1, 2, 3, 4, 6)]
        for one in shares:
            for two in shares:
                self.same(plus(pair(one), pair(two)), pair(one + two))
                self.same(times(pair(one), pair(two)), pair(one * two))


class MeanTest(Case):
    def test_one(self):
        self.same(mean(((1, 2),)), (1, 2))
        self.same(mean(((0, 1),)), (0, 1))

    def test_several(self):
        self.same(mean(((1, 2), (1, 3))), (5, 12))
        self.same(mean(((1, 1), (2, 1), (6, 1))), (3, 1))
        self.same(mean(((1, 2), (-1, 2))), (0, 1))
        self.same(mean(((-1, 2), (-1, 2), (-1, 2))), (-1, 2))
        self.same(mean(((1, 1), (0, 1), (0, 1), (0, 1))), (1, 4))

    def test_many(self):
        self.same(mean(tuple((n, 1) for n in range(1, 1001))), (1001, 2))

    def test_none(self):
        self.refuses(BadCount, 0, mean, ())
