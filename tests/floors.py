"""A floor of the tests' own, told by plain rows, and the deeds that can be asked of both."""

from lampwalks.errors import BadDeed, BadPurse, Dear, NothingToRedo, NothingToUndo, TooMany
from lampwalks.floor import Floor
from tests.helpers import Case, steps_from


class Plain:
    """All rows that stand, and those that are undone, with all that was before each of them."""

    def __init__(self, land, state, purse):
        self.land = land
        self.now = (state, purse, state, 0)
        self.stand = []
        self.undone = []

    def refusal(self, word, number):
        """The error that a deed is refused with, as (kind, what); None if it is done."""
        state, purse, _, _ = self.now
        if word == "undo":
            return None if self.stand else (NothingToUndo, 0)
        if word == "redo":
            return None if self.undone else (NothingToRedo, 0)
        if word == "earn" and not 1 <= number <= 10 ** 6:
            return BadPurse, number
        if word in ("go", "turn"):
            many = self.land.many if word == "go" else self.land.lamps[state[0]].many
            if not 0 <= number < many:
                return BadDeed, 1
            lengths = [length for deed, length, _ in steps_from(self.land, state) if deed == (word, number)]
            if not lengths:
                return BadDeed, 2
            if lengths[0] > purse:
                return Dear, lengths[0]
        return (TooMany, 301) if len(self.stand) == 300 else None

    def do(self, word, number):
        """Does what is not refused."""
        state, purse, mark, spent = self.now
        if word == "undo":
            row, before = self.stand.pop()
            self.undone.append((row, self.now))
            self.now = before
            return
        if word == "redo":
            row, behind = self.undone.pop()
            self.stand.append((row, self.now))
            self.now = behind
            return
        row = (word,) if word == "mark" else (word, number)
        self.stand.append((row, self.now))
        self.undone = []
        if word == "mark":
            self.now = (state, purse, state, spent)
        elif word == "earn":
            self.now = (state, purse + number, mark, spent)
        else:
            ((length, then),) = [(length, then) for deed, length, then in steps_from(self.land, state) if deed == row]
            self.now = (then, purse - length, mark, spent + length)

    def told(self):
        return self.now + (tuple(row for row, _ in self.stand),)


def told(floor):
    """All that a floor tells of itself."""
    return floor.state(), floor.purse(), floor.marked(), floor.spent(), floor.record()


def begun(land, state, purse):
    """A floor of the package and one of the tests' own."""
    return Floor(land, state, purse), Plain(land, state, purse)


def some_deed(chance, land, state):
    """A drawn deed: most goings and turns are possible, others are not."""
    word = chance.choice(("go", "go", "go", "turn", "turn", "turn", "earn", "mark", "undo", "undo", "redo", "redo"))
    if word in ("go", "turn"):
        numbers = [deed[1] for deed, _, _ in steps_from(land, state) if deed[0] == word]
        if numbers and chance.random() < 0.8:
            return word, chance.choice(numbers)
        return word, chance.choice((-1, 0, 1, 2, 5, 6, 9, 10, 10 ** 30, -10 ** 30))
    if word == "earn":
        return word, chance.choice((1, 2, 50, 10 ** 6, 0, -1, 10 ** 6 + 1, 10 ** 30))
    return word, None


class FloorCase(Case):
    def tell(self, floor, plain):
        """Checks that both tell the same."""
        self.same(told(floor), plain.told())

    def both(self, floor, plain, word, number=None):
        """Asks both floors for a deed, and checks that it is done or refused alike."""
        given = () if number is None else (number,)
        error = plain.refusal(word, number)
        if error is None:
            self.assertIsNone(getattr(floor, word)(*given))
            plain.do(word, number)
        else:
            self.refuses(*error, getattr(floor, word), *given)
        self.tell(floor, plain)
