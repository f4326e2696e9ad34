from lampwalks.errors import BadLength, BadSize
from lampwalks.webmakers import alone, line_web, pair_web, star_web, wheel_web
from lampwalks.webs import Web
from tests.helpers import Case

BAD_LENGTHS = (0, -1, 101, 10 ** 30, -10 ** 30)


class WebMakersTest(Case):
    def check(self, web, many, roads):
        self.assertIsInstance(web, Web)
        self.same(web.many, many)
        self.same(web.roads, roads)

    def test_alone(self):
        self.check(alone(), 1, ())

    def test_pair_web(self):
        for length in (1, 7, 100):
            self.check(pair_web(length), 2, ((0, 1, length),))

    def test_line_web(self):
        self.check(line_web(1, 5), 1, ())
        self.check(line_web(2, 1), 2, ((0, 1, 1),))
        self.check(line_web(4, 100), 4, ((0, 1, 100), (1, 2, 100), (2, 3, 100)))
        self.check(line_web(6, 3), 6, ((0, 1, 3), (1, 2, 3), (2, 3, 3), (3, 4, 3), (4, 5, 3)))

    def test_wheel_web(self):
        self.check(wheel_web(3, 5), 3, ((0, 1, 5), (0, 2, 5), (1, 2, 5)))
        self.check(wheel_web(4, 1), 4, ((0, 1, 1), (0, 3, 1), (1, 2, 1), (2, 3, 1)))
        self.check(wheel_web(6, 100), 6, ((0, 1, 100), (0, 5, 100), (1, 2, 100), (2, 3, 100), (3, 4, 100),
                                          (4, 5, 100)))

    def test_star_web(self):
        self.check(star_web(1, 5), 1, ())
        self.check(star_web(2, 1), 2, ((0, 1, 1),))
        self.check(star_web(4, 100), 4, ((0, 1, 100), (0, 2, 100), (0, 3, 100)))
        self.check(star_web(6, 2), 6, ((0, 1, 2), (0, 2, 2), (0, 3, 2), (0, 4, 2), (0, 5, 2)))

    def test_bad_length_tells_the_length(self):
        for length in BAD_LENGTHS:
            self.refuses(BadLength, length, pair_web, length)
            for m in (1, 2, 6):
                self.refuses(BadLength, length, line_web, m, length)
                self.refuses(BadLength, length, star_web, m, length)
            for m in (3, 6):
                self.refuses(BadLength, length, wheel_web, m, length)

    def test_bad_size_comes_first(self):
        for length in (1, 100) + BAD_LENGTHS:
            for m in (0, -1, 7, 10 ** 30, -10 ** 30):
                self.refuses(BadSize, m, line_web, m, length)
                self.refuses(BadSize, m, star_web, m, length)
            for m in (2, 1, 0, -1, 7, 10 ** 30):
                self.refuses(BadSize, m, wheel_web, m, length)
