import itertools

from lampwalks.errors import BadLength, BadRoad, BadSize, Parted
from lampwalks.lands import made_land
from lampwalks.webmakers import alone
from lampwalks.webs import Web, made_web
from tests.helpers import ODD, Case, all_apart

FAR = 10 ** 30


class Likeness:
    """What looks like a web but is of another class."""

    def __init__(self, many, roads):
        self.many = many
        self.roads = roads


class MadeWebTest(Case):
    def test_one_position(self):
        web = made_web(1, ())
        self.assertIsInstance(web, Web)
        self.same(web.many, 1)
        self.same(web.roads, ())

    def test_several_positions(self):
        roads = ((0, 1, 1), (0, 3, 100), (1, 2, 7), (2, 3, 1))
        web = made_web(4, roads)
        self.assertIsInstance(web, Web)
        self.same(web.many, 4)
        self.same(web.roads, roads)

    def test_six_positions_and_all_roads(self):
        roads = tuple((p, q, 1 + p + q) for p, q in itertools.combinations(range(6), 2))
        web = made_web(6, roads)
        self.same(web.many, 6)
        self.same(web.roads, roads)
        self.assertEqual(len(web.roads), 15)

    def test_a_shorter_length_may_come_later(self):
        self.same(made_web(3, ((0, 1, 9), (0, 2, 1))).roads, ((0, 1, 9), (0, 2, 1)))

    def test_by_name(self):
        self.same(made_web(roads=((0, 1, 3),), m=2).roads, ((0, 1, 3),))

    def test_bad_size(self):
        for m in (0, -1, 7, 8, FAR, -FAR):
            self.refuses(BadSize, m, made_web, m, ())
            self.refuses(BadSize, m, made_web, m, ("x",))

    def test_entries_that_are_no_roads(self):
        for odd in ODD:
            self.refuses(BadRoad, 0, made_web, 2, (odd,))
            self.refuses(BadRoad, 1, made_web, 3, ((0, 1, 1), odd))
            self.refuses(BadRoad, 0, made_web, 3, (odd, odd, (0, 1, 1)))

    def test_true_and_false_are_no_numbers(self):
        for odd in ((False, 1, 1), (0, True, 1), (0, 1, True)):
            self.refuses(BadRoad, 0, made_web, 2, (odd,))

    def test_bad_positions(self):
        for p, q in ((1, 0), (0, 0), (1, 1), (-1, 1), (-2, -1), (0, 3), (3, 4), (2, 3), (0, FAR), (-FAR, 0)):
            self.refuses(BadRoad, 0, made_web, 3, ((p, q, 1),))
            self.refuses(BadRoad, 2, made_web, 3, ((0, 1, 1), (0, 2, 1), (p, q, 1)))

    def test_one_position_has_no_roads(self):
        self.refuses(BadRoad, 0, made_web, 1, ((0, 0, 1),))
        self.refuses(BadRoad, 0, made_web, 1, ((0, 1, 1),))

    def test_order_of_roads(self):
        self.refuses(BadRoad, 1, made_web, 3, ((0, 2, 1), (0, 1, 1)))
        self.refuses(BadRoad, 1, made_web, 3, ((1, 2, 1), (0, 2, 1), (0, 1, 1)))
        self.refuses(BadRoad, 2, made_web, 4, ((0, 1, 1), (1, 3, 1), (1, 2, 1)))

    def test_a_pair_comes_once(self):
        self.refuses(BadRoad, 1, made_web, 2, ((0, 1, 1), (0, 1, 1)))
        self.refuses(BadRoad, 1, made_web, 2, ((0, 1, 1), (0, 1, 2)))

    def test_bad_length(self):
        for length in (0, -1, 101, 102, FAR, -FAR):
            self.refuses(BadLength, 0, made_web, 2, ((0, 1, length),))
            self.refuses(BadLength, 1, made_web, 3, ((0, 1, 1), (1, 2, length)))
            self.refuses(BadLength, 1, made_web, 4, ((0, 1, 100), (1, 2, length), (1, 3, length)))

    def test_least_and_greatest_length(self):
        self.same(made_web(3, ((0, 1, 1), (1, 2, 100))).roads, ((0, 1, 1), (1, 2, 100)))

    def test_parted(self):
        self.refuses(Parted, 1, made_web, 2, ())
        self.refuses(Parted, 1, made_web, 6, ())
        self.refuses(Parted, 2, made_web, 4, ((0, 1, 1), (2, 3, 1)))
        self.refuses(Parted, 1, made_web, 4, ((0, 2, 1),))
        self.refuses(Parted, 1, made_web, 4, ((0, 3, 1), (2, 3, 1)))
        self.refuses(Parted, 1, made_web, 3, ((1, 2, 1),))
        self.refuses(Parted, 4, made_web, 6, ((0, 5, 1), (1, 2, 1), (1, 3, 1), (3, 5, 1)))

    def test_each_rule_goes_over_all_roads(self):
        self.refuses(BadRoad, 1, made_web, 3, ((0, 1, 0), (1, 1, 1)))
        self.refuses(BadRoad, 2, made_web, 3, ((0, 1, 101), (0, 2, 0), "road"))
        self.refuses(BadRoad, 1, made_web, 3, ((0, 1, 0), (0, 1, 1)))
        self.refuses(BadLength, 0, made_web, 4, ((0, 1, 0),))
        self.refuses(BadLength, 1, made_web, 6, ((0, 1, 1), (0, 2, 101)))

    def test_which_webs_are_whole(self):
        pairs = list(itertools.combinations(range(4), 2))
        for count in range(7):
            for some in itertools.combinations(pairs, count):
                roads = tuple(pair + (1,) for pair in some)
                table = all_apart(4, roads)
                lost = [x for x in range(4) if table[0, x] is None]
                if lost:
                    self.refuses(Parted, lost[0], made_web, 4, roads)
                else:
                    self.same(made_web(4, roads).roads, roads)


class EqualWebsTest(Case):
    def check(self, one, other, equal):
        self.same(one == other, equal)
        self.same(other == one, equal)
        self.same(one != other, not equal)
        self.same(other != one, not equal)

    def test_equal(self):
        self.check(made_web(1, ()), alone(), True)
        self.check(made_web(2, ((0, 1, 5),)), made_web(2, ((0, 1, 5),)), True)
        web = made_web(3, ((0, 1, 5), (0, 2, 5)))
        self.check(web, web, True)

    def test_unequal(self):
        web = made_web(3, ((0, 1, 5), (0, 2, 5)))
        self.check(web, made_web(3, ((0, 1, 5), (0, 2, 6))), False)
        self.check(web, made_web(3, ((0, 1, 5), (1, 2, 5))), False)
        self.check(web, made_web(3, ((0, 1, 5), (0, 2, 5), (1, 2, 5))), False)
        self.check(web, made_web(4, ((0, 1, 5), (0, 2, 5), (0, 3, 5))), False)
        self.check(made_web(1, ()), made_web(2, ((0, 1, 1),)), False)

    def test_values_of_other_classes(self):
        web = made_web(2, ((0, 1, 5),))
        for other in (0, 2, "", "web", (), (2, ((0, 1, 5),)), None, Likeness(2, ((0, 1, 5),)),
                      made_land(2, ((0, 1, 5),), (alone(), alone()))):
            self.check(web, other, False)

    def test_a_web_knows_its_own_equality(self):
        self.assertIn("__eq__", Web.__dict__)
