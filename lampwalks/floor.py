"""A floor: a state and a purse through deeds, which can be undone and redone."""

from lampwalks.deeds import cost
from lampwalks.done import after
from lampwalks.errors import BadPurse, Dear, NothingToRedo, NothingToUndo, TooMany
from lampwalks.states import check_state

MOST_PURSE = 1000000000
MOST_EARNED = 1000000
MOST_STANDING = 300


class Floor:
    """A floor holds a land, and a state, a purse and a mark, which change by deeds."""

    def __init__(self, land, state, purse):
        check_state(land, state)
        if not 0 <= purse <= MOST_PURSE:
            raise BadPurse(purse)
        self.land = land
        self._standing = 0
        # the deeds that stand, and behind them those that can be redone
        self._rows = []
        # the tuple (state, purse, mark, spent) before the first of these deeds and after each of them
        self._moments = [(state, purse, state, 0)]

    def _now(self):
        """The tuple (state, purse, mark, spent) as it stands."""
        return self._moments[self._standing]

    def _stand(self, row, moment):
        """Lets a deed stand that leads to this moment."""
        if self._standing == MOST_STANDING:
            raise TooMany(MOST_STANDING + 1)
        self._rows = self._rows[:self._standing] + [row]
        self._moments = self._moments[:self._standing + 1] + [moment]
        self._standing += 1

    def _move(self, deed):
        """Does a deed that is paid from the purse."""
        state, purse, mark, spent = self._now()
        paid = cost(self.land, state, deed)
        if purse < paid:
            raise Dear(paid)
        self._stand(deed, (after(state, deed), purse - paid, mark, spent + paid))

    def go(self, y):
        """The walker goes to the place y."""
        self._move(("go", y))

    def turn(self, q):
        """The lamp where the walker stands is turned to q."""
        self._move(("turn", q))

    def earn(self, k):
        """The purse grows by k."""
        if not 1 <= k <= MOST_EARNED:
            raise BadPurse(k)
        state, purse, mark, spent = self._now()
        self._stand(("earn", k), (state, purse + k, mark, spent))

    def mark(self):
        """The mark becomes the state as it stands."""
        state, purse, mark, spent = self._now()
        self._stand(("mark",), (state, purse, state, spent))

    def undo(self):
        """Takes back the last deed that stands."""
        if self._standing == 0:
            raise NothingToUndo(0)
        self._standing -= 1

    def redo(self):
        """Does again the deed that was undone last."""
        if self._standing == len(self._rows):
            raise NothingToRedo(0)
        self._standing += 1

    def state(self):
        """The state as it stands."""
        return self._now()[0]

    def purse(self):
        """What the purse holds."""
        return self._now()[1]

    def marked(self):
        """The mark."""
        return self._now()[2]

    def spent(self):
        """The sum of the costs of the goings and turns that stand."""
        return self._now()[3]

    def record(self):
        """The rows of the deeds that stand."""
        return tuple(self._rows[:self._standing])
