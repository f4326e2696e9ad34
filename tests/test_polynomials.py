from lampwalks.errors import BadCount, TooMany
from lampwalks.polynomials import greatest, moved, poly_plus, poly_times, total
from tests.helpers import Case

FAR = 10 ** 40


class PlusTest(Case):
    def test_ordinary(self):
        self.same(poly_plus(((0, 1), (2, 3)), ((1, 5), (2, 4))), ((0, 1), (1, 5), (2, 7)))
        self.same(poly_plus(((5, 1),), ((1, 1),)), ((1, 1), (5, 1)))

    def test_with_nothing(self):
        self.same(poly_plus((), ()), ())
        self.same(poly_plus(((3, 2),), ()), ((3, 2),))
        self.same(poly_plus((), ((3, 2),)), ((3, 2),))

    def test_what_comes_to_0_is_left_out(self):
        self.same(poly_plus(((0, 1), (2, 3)), ((2, -3), (4, 1))), ((0, 1), (4, 1)))
        self.same(poly_plus(((7, -2),), ((7, 2),)), ())

    def test_below_0(self):
        self.same(poly_plus(((1, -4),), ((1, 3), (2, -1))), ((1, -1), (2, -1)))

    def test_no_bound(self):
        self.same(poly_plus(((0, FAR), (FAR, 1)), ((FAR, FAR),)), ((0, FAR), (FAR, FAR + 1)))
        one = tuple((price, 1) for price in range(1500))
        two = tuple((price, 2) for price in range(1000, 2500))
        wanted = tuple((price, (price < 1500) + 2 * (price >= 1000)) for price in range(2500))
        self.same(poly_plus(one, two), wanted)


class TimesTest(Case):
    def test_ordinary(self):
        # (1 + t) * (1 + 2 t + t ** 3)
        self.same(poly_times(((0, 1), (1, 1)), ((0, 1), (1, 2), (3, 1))), ((0, 1), (1, 3), (2, 2), (3, 1), (4, 1)))
        self.same(poly_times(((2, 3),), ((5, 7),)), ((7, 21),))

    def test_with_nothing(self):
        self.same(poly_times((), ()), ())
        self.same(poly_times((), ((0, 1), (1, 1))), ())
        self.same(poly_times(((0, 1), (1, 1)), ()), ())

    def test_with_one(self):
        self.same(poly_times(((0, 1),), ((4, 2), (9, -1))), ((4, 2), (9, -1)))

    def test_what_comes_to_0_is_left_out(self):
        self.same(poly_times(((0, 1), (1, 1)), ((0, 1), (1, -1))), ((0, 1), (2, -1)))

    def test_it_is_ascending(self):
        self.same(poly_times(((0, 1), (10, 1)), ((0, 1), (3, 1))), ((0, 1), (3, 1), (10, 1), (13, 1)))

    def test_great_prices_and_numbers(self):
        self.same(poly_times(((FAR, FAR),), ((0, 1), (FAR, -1))), ((FAR, FAR), (2 * FAR, -FAR)))

    def test_just_not_too_many(self):
        one = tuple((price, 1) for price in range(1000))
        got = poly_times(one, one)
        self.assertEqual(got, tuple((price, min(price + 1, 1999 - price)) for price in range(1999)))

    def test_too_many(self):
        def straight(many):
            return tuple((price, 1) for price in range(many))
        self.refuses(TooMany, 1000001, poly_times, straight(101), straight(9901))
        self.refuses(TooMany, 1000001, poly_times, straight(9901), straight(101))
        self.refuses(TooMany, 1001000, poly_times, straight(1001), straight(1000))
        self.refuses(TooMany, 1000001, poly_times, straight(1000001), straight(1))


class OthersTest(Case):
    def test_moved(self):
        self.same(moved(((0, 1), (4, -2)), 3), ((3, 1), (7, -2)))
        self.same(moved(((0, 1), (4, -2)), 0), ((0, 1), (4, -2)))
        self.same(moved((), 5), ())
        self.same(moved(((1, 1),), FAR), ((FAR + 1, 1),))

    def test_moved_below_0(self):
        self.refuses(BadCount, -1, moved, ((5, 1),), -1)
        self.refuses(BadCount, -FAR, moved, (), -FAR)

    def test_total(self):
        self.same(total(()), 0)
        self.same(total(((0, 1), (5, 2), (9, 4))), 7)
        self.same(total(((0, 1), (5, -2))), -1)
        self.same(total(((3, FAR), (4, FAR))), 2 * FAR)

    def test_greatest(self):
        self.same(greatest(((0, 9),)), 0)
        self.same(greatest(((0, 9), (2, 1), (7, -5))), 7)
        self.same(greatest(((0, 1), (FAR, 1))), FAR)

    def test_greatest_of_nothing(self):
        self.refuses(BadCount, 0, greatest, ())

    def test_the_bound_of_times_is_for_times_alone(self):
        great = tuple((price, 1) for price in range(1000001))
        self.assertEqual(len(poly_plus(great, great)), 1000001)
        self.assertEqual(len(moved(great, 1)), 1000001)
        self.assertEqual(total(great), 1000001)
        self.assertEqual(greatest(great), 1000000)
