import random

from lampwalks.errors import BadPlace
from lampwalks.webmakers import alone, line_web, star_web, wheel_web
from lampwalks.webs import made_web
from lampwalks.webcounts import web_inner, web_ways
from lampwalks.webways import web_apart, web_next
from tests.helpers import Case, all_ways, some_webs

# example of [10]: the roads 0 - 1 - 2 - 3 are as long as the road 0 - 3
ROUND = made_web(4, ((0, 1, 1), (0, 3, 3), (1, 2, 1), (2, 3, 1)))

# the road from 0 to 1 is longer than the way over 2
DETOUR = made_web(3, ((0, 1, 10), (0, 2, 1), (1, 2, 1)))

# each position is as far from another one as their numbers are, whatever is passed between them
FULL = made_web(6, tuple((p, q, q - p) for p in range(6) for q in range(p + 1, 6)))


class LeastWaysTest(Case):
    def test_web_apart(self):
        self.same(web_apart(ROUND, 0, 3), 3)
        self.same(web_apart(ROUND, 0, 2), 2)
        self.same(web_apart(ROUND, 3, 1), 2)
        self.same(web_apart(DETOUR, 0, 1), 2)
        self.same(web_apart(DETOUR, 1, 0), 2)
        self.same(web_apart(FULL, 5, 1), 4)
        self.same(web_apart(line_web(6, 100), 0, 5), 500)
        self.same(web_apart(wheel_web(6, 7), 1, 5), 14)
        self.same(web_apart(star_web(4, 3), 1, 3), 6)

    def test_web_apart_of_one_position(self):
        self.same(web_apart(alone(), 0, 0), 0)
        for x in range(4):
            self.same(web_apart(ROUND, x, x), 0)

    def test_web_next(self):
        self.same(web_next(ROUND, 0, 3), (1, 3))
        self.same(web_next(ROUND, 3, 0), (0, 2))
        self.same(web_next(ROUND, 0, 2), (1,))
        self.same(web_next(ROUND, 1, 3), (2,))
        self.same(web_next(DETOUR, 0, 1), (2,))
        self.same(web_next(DETOUR, 0, 2), (2,))
        self.same(web_next(FULL, 1, 4), (2, 3, 4))
        self.same(web_next(FULL, 4, 1), (1, 2, 3))
        self.same(web_next(wheel_web(6, 7), 1, 4), (0, 2))

    def test_web_next_of_one_position(self):
        self.same(web_next(alone(), 0, 0), ())
        for x in range(4):
            self.same(web_next(ROUND, x, x), ())

    def test_web_ways(self):
        self.same(web_ways(ROUND, 0, 3), ((1, 1), (3, 1)))
        self.same(web_ways(ROUND, 3, 0), ((1, 1), (3, 1)))
        self.same(web_ways(ROUND, 0, 2), ((2, 1),))
        self.same(web_ways(DETOUR, 0, 1), ((2, 1),))
        self.same(web_ways(FULL, 0, 5), ((1, 1), (2, 4), (3, 6), (4, 4), (5, 1)))
        self.same(web_ways(FULL, 4, 1), ((1, 1), (2, 2), (3, 1)))
        self.same(web_ways(wheel_web(6, 5), 0, 3), ((3, 2),))
        self.same(web_ways(line_web(6, 5), 5, 0), ((5, 1),))

    def test_web_ways_of_one_position(self):
        self.same(web_ways(alone(), 0, 0), ((0, 1),))
        for x in range(6):
            self.same(web_ways(FULL, x, x), ((0, 1),))

    def test_web_inner(self):
        self.same(web_inner(ROUND, 0, 3), (0, 1, 2, 3))
        self.same(web_inner(ROUND, 2, 0), (0, 1, 2))
        self.same(web_inner(DETOUR, 0, 1), (0, 1, 2))
        self.same(web_inner(DETOUR, 2, 0), (0, 2))
        self.same(web_inner(FULL, 4, 2), (2, 3, 4))
        self.same(web_inner(wheel_web(6, 5), 0, 2), (0, 1, 2))
        self.same(web_inner(star_web(6, 1), 5, 2), (0, 2, 5))

    def test_web_inner_of_one_position(self):
        self.same(web_inner(alone(), 0, 0), (0,))
        for x in range(6):
            self.same(web_inner(FULL, x, x), (x,))

    def test_by_all_ways(self):
        for web in some_webs(random.Random(5), 60):
            for p in range(web.many):
                for q in range(web.many):
                    self.check_by_all_ways(web, p, q)

    def check_by_all_ways(self, web, p, q):
        ways = all_ways(web.many, web.roads, p, q)
        least = min(length for passed, length in ways)
        best = [passed for passed, length in ways if length == least]
        steps = [len(passed) - 1 for passed in best]
        self.same(web_apart(web, p, q), least)
        self.same(web_next(web, p, q), tuple(sorted({passed[1] for passed in best if len(passed) > 1})))
        self.same(web_ways(web, p, q), tuple((many, steps.count(many)) for many in sorted(set(steps))))
        self.same(web_inner(web, p, q), tuple(sorted({x for passed in best for x in passed})))

    def test_bad_positions(self):
        for call in (web_apart, web_next, web_ways, web_inner):
            for bad in (-1, 4, 5, 10 ** 30, -10 ** 30):
                self.refuses(BadPlace, bad, call, ROUND, bad, 0)
                self.refuses(BadPlace, bad, call, ROUND, 3, bad)
                self.refuses(BadPlace, bad, call, ROUND, bad, bad)
                self.refuses(BadPlace, bad, call, ROUND, bad, 7)
            self.refuses(BadPlace, 7, call, ROUND, 7, -1)
            self.refuses(BadPlace, 1, call, alone(), 1, 0)
            self.refuses(BadPlace, -1, call, alone(), 0, -1)

    def test_the_web_stays_as_it_is(self):
        for call in (web_apart, web_next, web_ways, web_inner):
            call(ROUND, 0, 3)
        self.same(ROUND.many, 4)
        self.same(ROUND.roads, ((0, 1, 1), (0, 3, 3), (1, 2, 1), (2, 3, 1)))
