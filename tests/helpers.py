"""What several tests need: exact comparison, refusals, odd values, lands, and slow ways to find answers."""

import heapq
import itertools
import math
import time
import unittest

from lampwalks.errors import BadDeed, BadPurse, Dear, NothingToRedo, NothingToUndo, TooMany
from lampwalks.floor import Floor
from lampwalks.lands import made_land
from lampwalks.webmakers import alone, line_web, pair_web, star_web, wheel_web
from lampwalks.webs import made_web


def nested(deep):
    """A tuple nested so deep."""
    thing = ()
    for _ in range(deep - 1):
        thing = (thing,)
    return thing


def doubled(times):
    """A tuple with one shared part that stands there 2 ** times times."""
    thing = 0
    for _ in range(times):
        thing = (thing, thing)
    return thing


# values built from tuples, texts and numbers; none of them is a road, a lamp, a deed, or a state
ODD = (
    (), "", "a", "go", "turn", "ab", "abc", "1: 0 0", 0, 1, -1, 10 ** 30, -10 ** 30, (0,), (1,), (0, 0), (0, 1),
    (0, 1, "1"), ("0", 1, 1), (0, "1", 1), (0, (1,), 1), ((0,), 1, 1), (0, 1, ()), (0, 1, 1, 1), ((0, 1, 1),),
    ("go",), ("turn",), ("go", "0"), ("go", ()), ("go", (1,)), ("go", 1, 1), ("turn", "1"), ("turn", (0,)),
    ("turn", 0, 0), ("Go", 1), ("goo", 1), ("", 1), ("go ", 1), (0, "go"), (1, "go"), ("mark",), ("earn", 1),
    (("go",), 1), (("go", 1),), (("go", 1), 1), ((), ()), ("", ""), (0, ""), ("", ()),
    nested(100), doubled(15), tuple(range(50000)), "x" * 1000,
)


def alike(one, other):
    """Whether two values are equal and of the same kinds throughout: a list is no tuple, True is not 1."""
    if type(one) is not type(other):
        return False
    if isinstance(one, tuple):
        return len(one) == len(other) and all(alike(a, b) for a, b in zip(one, other))
    return one == other


class Case(unittest.TestCase):
    def same(self, got, wanted):
        self.assertTrue(alike(got, wanted), f"got {got!r}, wanted {wanted!r}")

    def refuses(self, kind, what, call, *given, **named):
        """Checks that the call raises just this kind of error, with this what."""
        try:
            got = call(*given, **named)
        except ValueError as error:
            self.assertIs(type(error), kind, f"{error!r} instead of {kind.__name__}")
            self.same(error.what, what)
        else:
            self.fail(f"got {got!r}, wanted {kind.__name__}({what!r})")

    def quick(self, seconds, call, *given, **named):
        """What the call returns, which must not take longer than so many seconds."""
        before = time.perf_counter()
        got = call(*given, **named)
        self.assertLess(time.perf_counter() - before, seconds, call.__name__)
        return got


def all_apart(many, roads):
    """The least lengths between all points, by going through each of them in turn."""
    table = {(x, y): 0 if x == y else None for x in range(many) for y in range(many)}
    for p, q, length in roads:
        table[p, q] = table[q, p] = length
    for through, x, y in itertools.product(range(many), repeat=3):
        one, two = table[x, through], table[through, y]
        if one is not None and two is not None and (table[x, y] is None or one + two < table[x, y]):
            table[x, y] = one + two
    return table


def all_ways(many, roads, start, end):
    """All ways from start to end that come to no point twice, as tuples of points, with their lengths."""
    lengths = {}
    for p, q, length in roads:
        lengths[p, q] = lengths[q, p] = length
    found = []

    def go_on(passed, length):
        if passed[-1] == end:
            found.append((passed, length))
            return
        for x in range(many):
            if x not in passed and (passed[-1], x) in lengths:
                go_on(passed + (x,), length + lengths[passed[-1], x])

    go_on((start,), 0)
    return found


def some_webs(chance, count):
    """Webs of 1 to 6 positions with drawn roads, short ones, so that several least ways are not rare."""
    webs = []
    while len(webs) < count:
        many = chance.randint(1, 6)
        pairs = list(itertools.combinations(range(many), 2))
        roads = tuple((p, q, chance.randint(1, 4)) for p, q in pairs if chance.random() < 0.7)
        if None not in all_apart(many, roads).values():
            webs.append(made_web(many, roads))
    return webs


def some_roads(chance, many, ring):
    """Drawn roads of a land with so many places; with one ring if ring is True (many must be 3 or more)."""
    lengths = {}
    names = list(range(many))
    chance.shuffle(names)
    for x in range(1, many):
        pair = tuple(sorted((names[x], names[chance.randrange(x)])))
        lengths[pair] = chance.randint(1, 100)
    if ring:
        free = [pair for pair in itertools.combinations(range(many), 2) if pair not in lengths]
        lengths[chance.choice(free)] = chance.randint(1, 100)
    return tuple(pair + (lengths[pair],) for pair in sorted(lengths))


def some_lands(chance, count, ring=False, most=10, lamps=None):
    """Drawn lands, trees or with one ring, with drawn lamps."""
    made = []
    for _ in range(count):
        many = chance.randint(3 if ring else 1, most)
        webs = lamps if lamps is not None else some_webs(chance, 6)
        made.append(made_land(many, some_roads(chance, many, ring), tuple(chance.choice(webs) for _ in range(many))))
    return made


def some_state(chance, land):
    """A drawn state of the land."""
    return chance.randrange(land.many), tuple(chance.randrange(lamp.many) for lamp in land.lamps)


def all_states(land):
    """All states of a land, ascending."""
    rows = list(itertools.product(*[range(lamp.many) for lamp in land.lamps]))
    return [(place, row) for place in range(land.many) for row in rows]


def steps_from(land, state):
    """The triples (deed, its cost, the state after it) of all deeds that are possible at a state, ascending."""
    place, row = state
    found = []
    for x, y, length in land.roads:
        if place in (x, y):
            other = x + y - place
            found.append((("go", other), length, (other, row)))
    for p, q, length in land.lamps[place].roads:
        if row[place] in (p, q):
            other = p + q - row[place]
            found.append((("turn", other), length, (place, row[:place] + (other,) + row[place + 1:])))
    return sorted(found)


def led(land, state, run):
    """The state after the run and its cost, deed by deed; each deed must be one that is possible where it stands."""
    spent = 0
    for deed in run:
        ((length, state),) = [(length, then) for told, length, then in steps_from(land, state) if told == deed]
        spent += length
    return state, spent


def least_costs(land, start):
    """The least costs of runs from a state to all states, by going on from the cheapest state each time."""
    found, queue = {}, [(0, start)]
    while queue:
        spent, state = heapq.heappop(queue)
        if state not in found:
            found[state] = spent
            for _, length, then in steps_from(land, state):
                if then not in found:
                    heapq.heappush(queue, (spent + length, then))
    return found


def least_deeds(land, left, state):
    """The triples of steps_from that take their cost off what is left; left has the least costs to the end."""
    return [step for step in steps_from(land, state) if step[1] + left[step[2]] == left[state]]


def least_runs(land, left, state):
    """All least runs from a state to the end, ascending; left has the least costs to the end."""
    if left[state] == 0:
        return [()]
    return [(deed,) + run for deed, _, then in least_deeds(land, left, state) for run in least_runs(land, left, then)]


def least_runs_many(land, left, state, known):
    """How many least runs there are, by adding up over their first deeds; known keeps what is found."""
    if state not in known:
        known[state] = 1 if left[state] == 0 else sum(
            least_runs_many(land, left, then, known) for _, _, then in least_deeds(land, left, state))
    return known[state]


def tally(prices):
    """The pairs (price, how often it stands there), ascending."""
    prices = list(prices)
    return tuple((price, prices.count(price)) for price in sorted(set(prices)))


def small_trees(chance, count, states):
    """Drawn trees with at most so many states: some of few places, some of up to ten with lamps mostly alone."""
    made = []
    while len(made) < count:
        most, lamps = chance.choice(((4, SMALL_WEBS), (10, (alone(), alone(), alone(), pair_web(1), pair_web(3)))))
        (land,) = some_lands(chance, 1, most=most, lamps=lamps)
        if land.many * math.prod(lamp.many for lamp in land.lamps) <= states:
            made.append(land)
    return made


def some_end(chance, land, a):
    """A drawn state in which some of the lamps are as in a."""
    b = some_state(chance, land)
    keep = chance.choice((0.0, 0.3, 0.7, 1.0))
    place = a[0] if chance.random() < 0.3 else b[0]
    return place, tuple(p if chance.random() < keep else q for p, q in zip(a[1], b[1]))


def some_row(chance, land, row):
    """A drawn row in which some of the lamps are as in this row."""
    return some_end(chance, land, (0, row))[1]


def way_of(land, x, y):
    """The only way from x to y in a tree, as a tuple of places."""
    ((passed, _),) = all_ways(land.many, land.roads, x, y)
    return passed


def on_way(land, road, x, y):
    """Whether the road with this index lies on the way from x to y."""
    passed = way_of(land, x, y)
    return land.roads[road][:2] in [tuple(sorted(pair)) for pair in itertools.pairwise(passed)]


def crossings_of(land, a, b, road):
    """How often a road of a tree is crossed from a to b, as the document words it."""
    if on_way(land, road, a[0], b[0]):
        return 1
    places = [x for x in range(land.many) if a[1][x] != b[1][x]]
    return 2 if any(on_way(land, road, a[0], x) for x in places) else 0


def all_sets(land, a, wish, worths, back):
    """The triples (price, worth, set) of all sets of unlike places, with the prices found by search."""
    costs = least_costs(land, a)
    unlike = [x for x in range(land.many) if a[1][x] != wish[x]]
    found = []
    for size in range(len(unlike) + 1):
        for places in itertools.combinations(unlike, size):
            row = tuple(wish[x] if x in places else a[1][x] for x in range(land.many))
            ends = [a[0]] if back else range(land.many)
            found.append((min(costs[y, row] for y in ends), sum(worths[x] for x in places), places))
    return found


def some_worths(chance, many):
    """Drawn worths; alike ones, 0 and 1000 are not rare."""
    most = chance.choice((0, 1, 3, 10, 1000))
    return tuple(chance.choice((0, most, chance.randint(0, most), chance.randint(0, most))) for _ in range(many))


class Plain:
    """A floor of the tests' own: all rows that stand, and those that are undone, with what was before each of them."""

    def __init__(self, land, state, purse):
        self.land = land
        self.now = (state, purse, state, 0)
        self.stand = []
        self.undone = []

    def refusal(self, word, number):
        """The error that a deed is refused with, as (kind, what); None if it is done."""
        state, purse, _, _ = self.now
        if word == "undo":
            return None if self.stand else (NothingToUndo, 0)
        if word == "redo":
            return None if self.undone else (NothingToRedo, 0)
        if word == "earn" and not 1 <= number <= 10 ** 6:
            return BadPurse, number
        if word in ("go", "turn"):
            many = self.land.many if word == "go" else self.land.lamps[state[0]].many
            if not 0 <= number < many:
                return BadDeed, 1
            lengths = [length for deed, length, _ in steps_from(self.land, state) if deed == (word, number)]
            if not lengths:
                return BadDeed, 2
            if lengths[0] > purse:
                return Dear, lengths[0]
        return (TooMany, 301) if len(self.stand) == 300 else None

    def do(self, word, number):
        """Does what is not refused."""
        state, purse, mark, spent = self.now
        if word == "undo":
            row, before = self.stand.pop()
            self.undone.append((row, self.now))
            self.now = before
            return
        if word == "redo":
            row, behind = self.undone.pop()
            self.stand.append((row, self.now))
            self.now = behind
            return
        row = (word,) if word == "mark" else (word, number)
        self.stand.append((row, self.now))
        self.undone = []
        if word == "mark":
            self.now = (state, purse, state, spent)
        elif word == "earn":
            self.now = (state, purse + number, mark, spent)
        else:
            ((length, then),) = [(length, then) for deed, length, then in steps_from(self.land, state) if deed == row]
            self.now = (then, purse - length, mark, spent + length)

    def told(self):
        return self.now + (tuple(row for row, _ in self.stand),)


def told(floor):
    """All that a floor tells of itself."""
    return floor.state(), floor.purse(), floor.marked(), floor.spent(), floor.record()


def begun(land, state, purse):
    """A floor of the package and one of the tests' own."""
    return Floor(land, state, purse), Plain(land, state, purse)


def some_deed(chance, land, state):
    """A drawn deed: most goings and turns are possible, others are not."""
    word = chance.choice(("go", "go", "go", "turn", "turn", "turn", "earn", "mark", "undo", "undo", "redo", "redo"))
    if word in ("go", "turn"):
        numbers = [deed[1] for deed, _, _ in steps_from(land, state) if deed[0] == word]
        if numbers and chance.random() < 0.8:
            return word, chance.choice(numbers)
        return word, chance.choice((-1, 0, 1, 2, 5, 6, 9, 10, 10 ** 30, -10 ** 30))
    if word == "earn":
        return word, chance.choice((1, 2, 50, 10 ** 6, 0, -1, 10 ** 6 + 1, 10 ** 30))
    return word, None


class FloorCase(Case):
    def tell(self, floor, plain):
        """Checks that both tell the same."""
        self.same(told(floor), plain.told())

    def both(self, floor, plain, word, number=None):
        """Asks both floors for a deed, and checks that it is done or refused alike."""
        given = () if number is None else (number,)
        error = plain.refusal(word, number)
        if error is None:
            self.assertIsNone(getattr(floor, word)(*given))
            plain.do(word, number)
        else:
            self.refuses(*error, getattr(floor, word), *given)
        self.tell(floor, plain)


# a web in which the two least ways from 0 to 3 have 1 and 3 roads
UNLIKE = made_web(4, ((0, 1, 1), (0, 3, 3), (1, 2, 1), (2, 3, 1)))

# a web in which the least ways from 0 to 4 have 2, 3 and 3 roads, and those from 0 to 5 have 1, 3, 4 and 4
MANY_WAYS = made_web(6, ((0, 1, 1), (0, 2, 2), (0, 5, 5), (1, 2, 1), (1, 3, 2), (2, 4, 2), (3, 4, 1), (4, 5, 1)))

SMALL_WEBS = (alone(), alone(), pair_web(1), pair_web(2), line_web(3, 1), wheel_web(4, 1), UNLIKE)

# one place, and its lamp is alone
SPOT = made_land(1, (), (alone(),))

# examples A and B of the document: 0 - 1 - 2
LINE = made_land(3, ((0, 1, 1), (1, 2, 1)), (pair_web(1), pair_web(1), pair_web(1)))

# the land of [28]: three places that hang on place 0
STAR = made_land(4, ((0, 1, 1), (0, 2, 1), (0, 3, 1)), (alone(), pair_web(1), pair_web(1), pair_web(1)))

# the land W of the document
WEE = made_land(2, ((0, 1, 1),), (alone(), pair_web(1)))

# 0, 1 and 2 hang on 3; then 3 - 4 - 6, with 5 at 4, 9 and 7 at 6, and 8 at 7
TREE_ROADS = ((0, 3, 2), (1, 3, 5), (2, 3, 1), (3, 4, 7), (4, 5, 1), (4, 6, 100), (6, 7, 3), (6, 9, 4), (7, 8, 2))
TREE = made_land(10, TREE_ROADS, (
    alone(), pair_web(1), line_web(3, 2), wheel_web(4, 3), wheel_web(6, 100),
    alone(), pair_web(7), UNLIKE, line_web(6, 1), pair_web(100)))

# the ring 1 - 4 - 2 - 6 - 1; 0 hangs at 4, and 6 - 3 - 5 - 7 hangs at 6
RINGED_ROADS = ((0, 4, 3), (1, 4, 2), (1, 6, 5), (2, 4, 1), (2, 6, 1), (3, 5, 1), (3, 6, 4), (5, 7, 9))
RINGED = made_land(8, RINGED_ROADS, (
    pair_web(2), alone(), line_web(3, 1), pair_web(1), wheel_web(6, 1), alone(), pair_web(9), pair_web(1)))

# the least ring
THREE = made_land(3, ((0, 1, 1), (0, 2, 5), (1, 2, 1)), (pair_web(1), pair_web(1), alone()))

# the ring of four places of the document
FOUR = made_land(4, ((0, 1, 1), (0, 3, 1), (1, 2, 1), (2, 3, 1)), (pair_web(1),) * 4)

# ten places with lamps of six positions: a star, a line, and a tree between the two
WIDE = made_land(10, tuple((0, x, x) for x in range(1, 10)), (MANY_WAYS,) * 10)
LONG = made_land(10, tuple((x, x + 1, 100) for x in range(9)), (line_web(6, 100),) * 10)
BUSHY = made_land(10, TREE_ROADS, (MANY_WAYS, wheel_web(6, 1), star_web(6, 9), line_web(6, 3), MANY_WAYS) * 2)
