from lampwalks.errors import BadLamp, BadLength, BadRoad, BadSize, Parted
from lampwalks.lands import Land, is_tree, made_land
from lampwalks.webmakers import alone, pair_web
from lampwalks.webs import made_web
from tests.helpers import LINE, ODD, RINGED, SPOT, THREE, TREE, TREE_ROADS, WEE, Case

FAR = 10 ** 30


def lamps(n):
    return (alone(),) * n


def straight(n):
    return tuple((x, x + 1, 1) for x in range(n - 1))


class Likeness:
    """What looks like a land, or a web, but is of another class."""

    def __init__(self, many, roads, webs):
        self.many = many
        self.roads = roads
        self.lamps = webs


class MadeLandTest(Case):
    def check(self, n, roads, webs):
        land = made_land(n, roads, webs)
        self.assertIsInstance(land, Land)
        self.same(land.many, n)
        self.same(land.roads, roads)
        self.assertIs(type(land.lamps), tuple)
        self.assertEqual(len(land.lamps), n)
        for got, wanted in zip(land.lamps, webs):
            self.assertIs(got, wanted)

    def test_one_place(self):
        self.check(1, (), (pair_web(4),))

    def test_trees(self):
        self.check(2, ((0, 1, 100),), (alone(), pair_web(1)))
        self.check(4, ((0, 3, 1), (1, 3, 2), (2, 3, 3)), lamps(4))
        self.check(10, TREE_ROADS, lamps(9) + (pair_web(2),))

    def test_lands_with_a_ring(self):
        self.check(3, ((0, 1, 1), (0, 2, 100), (1, 2, 1)), lamps(3))
        self.check(4, ((0, 3, 1), (1, 2, 1), (1, 3, 1), (2, 3, 1)), lamps(4))
        self.check(10, straight(10)[:1] + ((0, 9, 5),) + straight(10)[1:], lamps(10))

    def test_by_name(self):
        self.same(made_land(lamps=lamps(2), roads=((0, 1, 3),), n=2).roads, ((0, 1, 3),))

    def test_bad_size(self):
        for n in (0, -1, 11, 12, FAR, -FAR):
            self.refuses(BadSize, n, made_land, n, (), ())
            self.refuses(BadSize, n, made_land, n, ("road",), (5,))

    def test_entries_that_are_no_roads(self):
        for odd in ODD:
            self.refuses(BadRoad, 0, made_land, 2, (odd,), lamps(2))
            self.refuses(BadRoad, 1, made_land, 3, ((0, 1, 1), odd), lamps(3))

    def test_bad_places(self):
        for x, y in ((1, 0), (0, 0), (1, 1), (-1, 1), (0, 3), (3, 4), (2, 3), (0, FAR), (-FAR, 0)):
            self.refuses(BadRoad, 0, made_land, 3, ((x, y, 1),), lamps(3))
            self.refuses(BadRoad, 1, made_land, 3, ((0, 1, 1), (x, y, 1)), lamps(3))

    def test_order_of_roads(self):
        self.refuses(BadRoad, 1, made_land, 3, ((0, 2, 1), (0, 1, 1)), lamps(3))
        self.refuses(BadRoad, 1, made_land, 3, ((1, 2, 1), (0, 1, 1)), lamps(3))
        self.refuses(BadRoad, 1, made_land, 3, ((0, 1, 1), (0, 1, 2)), lamps(3))

    def test_bad_length(self):
        for length in (0, -1, 101, FAR, -FAR):
            self.refuses(BadLength, 0, made_land, 2, ((0, 1, length),), lamps(2))
            self.refuses(BadLength, 1, made_land, 3, ((0, 1, 100), (1, 2, length)), lamps(3))

    def test_too_many_roads(self):
        full = ((0, 1, 1), (0, 2, 1), (0, 3, 1), (1, 2, 1), (1, 3, 1), (2, 3, 1))
        self.refuses(BadSize, 5, made_land, 4, full[:5], lamps(4))
        self.refuses(BadSize, 6, made_land, 4, full, lamps(4))
        self.refuses(BadSize, 6, made_land, 5, full, lamps(5))
        every = tuple((x, y, 1) for x in range(10) for y in range(x + 1, 10))
        self.refuses(BadSize, 45, made_land, 10, every, lamps(10))
        self.refuses(BadSize, 11, made_land, 10, every[:11], lamps(10))

    def test_parted(self):
        self.refuses(Parted, 1, made_land, 2, (), lamps(2))
        self.refuses(Parted, 2, made_land, 4, ((0, 1, 1), (2, 3, 1)), lamps(4))
        self.refuses(Parted, 1, made_land, 4, ((0, 3, 1), (2, 3, 1)), lamps(4))
        self.refuses(Parted, 9, made_land, 10, straight(9), lamps(10))
        # as many roads as a tree has, and as a land with a ring has, but a place is left out
        self.refuses(Parted, 3, made_land, 4, ((0, 1, 1), (0, 2, 1), (1, 2, 1)), lamps(4))
        self.refuses(Parted, 4, made_land, 5, ((0, 1, 1), (0, 2, 1), (0, 3, 1), (1, 2, 1), (1, 3, 1)), lamps(5))
        self.refuses(Parted, 1, made_land, 4, ((1, 2, 1), (1, 3, 1), (2, 3, 1)), lamps(4))

    def test_number_of_lamps(self):
        self.refuses(BadLamp, 0, made_land, 1, (), ())
        self.refuses(BadLamp, 2, made_land, 1, (), lamps(2))
        self.refuses(BadLamp, 2, made_land, 3, straight(3), lamps(2))
        self.refuses(BadLamp, 4, made_land, 3, straight(3), lamps(4))
        self.refuses(BadLamp, 4, made_land, 3, straight(3), ("x",) + lamps(3))
        self.refuses(BadLamp, 11, made_land, 10, straight(10), lamps(11))

    def test_lamps_that_are_none(self):
        web = pair_web(1)
        for odd in ODD + (LINE, (web,), Likeness(2, ((0, 1, 1),), ())):
            self.refuses(BadLamp, (0,), made_land, 1, (), (odd,))
            self.refuses(BadLamp, (1,), made_land, 3, straight(3), (web, odd, web))
            self.refuses(BadLamp, (2,), made_land, 3, straight(3), (web, web, odd))
            self.refuses(BadLamp, (0,), made_land, 3, straight(3), (odd, odd, web))

    def test_which_error_is_due_first(self):
        self.refuses(BadSize, 11, made_land, 11, ((0, 0, 0),), ())
        self.refuses(BadRoad, 1, made_land, 3, ((0, 1, 0), (1, 1, 1)), ())
        every = ((0, 1, 1), (0, 2, 1), (0, 3, 1), (1, 2, 1), (1, 3, 1))
        self.refuses(BadRoad, 5, made_land, 4, every + ("x",), ())
        self.refuses(BadLength, 5, made_land, 4, every + ((2, 3, 0),), ())
        self.refuses(BadSize, 5, made_land, 4, every, ())
        self.refuses(BadLength, 0, made_land, 3, ((0, 1, 0),), ())
        self.refuses(Parted, 2, made_land, 3, ((0, 1, 1),), ())
        self.refuses(Parted, 2, made_land, 3, ((0, 1, 1),), (5, 5, 5))
        self.refuses(BadLamp, 1, made_land, 2, ((0, 1, 1),), (5,))


class EqualLandsTest(Case):
    def check(self, one, other, equal):
        self.same(one == other, equal)
        self.same(other == one, equal)
        self.same(one != other, not equal)
        self.same(other != one, not equal)

    def test_equal(self):
        self.check(made_land(1, (), (alone(),)), SPOT, True)
        self.check(made_land(2, ((0, 1, 1),), (made_web(1, ()), made_web(2, ((0, 1, 1),)))), WEE, True)
        self.check(TREE, TREE, True)

    def test_unequal(self):
        self.check(WEE, made_land(2, ((0, 1, 2),), (alone(), pair_web(1))), False)
        self.check(WEE, made_land(2, ((0, 1, 1),), (pair_web(1), alone())), False)
        self.check(WEE, made_land(2, ((0, 1, 1),), (alone(), pair_web(2))), False)
        self.check(WEE, SPOT, False)
        self.check(LINE, made_land(3, ((0, 1, 1), (0, 2, 1)), (pair_web(1),) * 3), False)
        self.check(LINE, made_land(3, ((0, 1, 1), (0, 2, 1), (1, 2, 1)), (pair_web(1),) * 3), False)

    def test_values_of_other_classes(self):
        for other in (0, "", "land", (), (1, (), (alone(),)), None, alone(), Likeness(1, (), (alone(),))):
            self.check(SPOT, other, False)

    def test_a_land_knows_its_own_equality(self):
        self.assertIn("__eq__", Land.__dict__)


class IsTreeTest(Case):
    def test_trees(self):
        for land in (SPOT, WEE, LINE, TREE):
            self.same(is_tree(land), True)

    def test_lands_with_a_ring(self):
        for land in (THREE, RINGED, made_land(4, ((0, 3, 1), (1, 2, 1), (1, 3, 1), (2, 3, 1)), lamps(4))):
            self.same(is_tree(land), False)
