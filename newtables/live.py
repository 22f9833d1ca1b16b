"""A hall that is told bit by bit, and can go back."""

from newtables.basics import MOST_GUESTS, check_index, check_weight, fraction, is_whole
from newtables.errors import NothingToUndo, Refused
from newtables.seatings import tables_among


class Hall:
    """Newcomers, those who leave, and exchanged left neighbours, one call after another."""

    def __init__(self, weight=1):
        check_weight(weight)
        self._weight = weight
        # The left neighbours by guest. This dict is never changed, as former states keep it.
        self._lefts = {}
        self._newcomer = 0
        self._chance = (1, 1)
        # What was ahead of each call that holds.
        self._past = []

    def __len__(self):
        return len(self._past)

    @property
    def weight(self):
        """What a table counts."""
        return self._weight

    @property
    def here(self):
        """The ascending list of those who are there."""
        return sorted(self._lefts)

    @property
    def tables(self):
        """Their tables, with their own numbers."""
        return tables_among(self._lefts, sorted(self._lefts))

    @property
    def seating(self):
        """Their seating, with the numbers 0, 1, .. in the place of their own ones."""
        here = sorted(self._lefts)
        return [here.index(self._lefts[guest]) for guest in here]

    def open_table(self):
        """A newcomer opens a table."""
        self._check_room()
        lefts = dict(self._lefts)
        lefts[self._newcomer] = self._newcomer
        self._let_come(lefts, self._weight)

    def sit(self, mate):
        """A newcomer sits down directly left of mate."""
        self._check_room()
        self._check_here(mate)
        lefts = dict(self._lefts)
        lefts[self._newcomer] = lefts[mate]
        lefts[mate] = self._newcomer
        self._let_come(lefts, 1)

    def leave(self, guest):
        """A guest leaves, and its table closes up."""
        self._check_here(guest)
        next_one = self._lefts[guest]
        lefts = {}
        for other, left in self._lefts.items():
            if other != guest:
                lefts[other] = next_one if left == guest else left
        self._hold(lefts, self._newcomer, self._chance)

    def exchange(self, guest, mate):
        """Two guests exchange their left neighbours."""
        self._check_here(guest)
        self._check_here(mate)
        lefts = dict(self._lefts)
        lefts[guest] = self._lefts[mate]
        lefts[mate] = self._lefts[guest]
        self._hold(lefts, self._newcomer, self._chance)

    def undo(self):
        """The last call that holds is undone."""
        if len(self._past) == 0:
            raise NothingToUndo("no call holds")
        self._lefts, self._newcomer, self._chance = self._past.pop()

    def mark(self):
        """How many calls hold."""
        return len(self._past)

    def undo_to(self, index):
        """Calls are undone until so many are left."""
        check_index(index, len(self._past) + 1)
        while len(self._past) > index:
            self.undo()

    def twin(self):
        """An independent copy, which can undo the same calls."""
        other = Hall(self._weight)
        other._lefts = self._lefts
        other._newcomer = self._newcomer
        other._chance = self._chance
        other._past = list(self._past)
        return other

    def chance(self):
        """The product of the shares of all comings that hold."""
        return self._chance

    def _check_room(self):
        if len(self._lefts) == MOST_GUESTS:
            raise Refused("full")

    def _check_here(self, guest):
        # True and False equal numbers of guests, but are none.
        if not is_whole(guest) or guest not in self._lefts:
            raise Refused("gone")

    def _let_come(self, lefts, ways):
        """Holds a coming that counts so many of all the ways there were."""
        top, bottom = self._chance
        chance = fraction(top * ways, bottom * (self._weight + len(self._lefts)))
        self._hold(lefts, self._newcomer + 1, chance)

    def _hold(self, lefts, newcomer, chance):
        self._past.append((self._lefts, self._newcomer, self._chance))
        self._lefts = lefts
        self._newcomer = newcomer
        self._chance = chance
