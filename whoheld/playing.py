"""Playing: driving a store so that it writes the rows of a log."""

from whoheld.errors import AbsentError, HoldError, InvalidRow, SizeError, TurnError, Unplayed
from whoheld.slots import KEY
from whoheld.states import State
from whoheld.store import Store


def played(rows, views=(), stays=()):
    """The store that was driven with these views and stays so that it wrote the rows of a valid log."""
    if not isinstance(rows, tuple):
        raise InvalidRow(0)
    fates = State.of(rows).fates()
    begins = {number: fates.first(number) for number in fates.outers}
    for number, view in views:
        begins[number] = view
    play = Play(begins, stays)
    for index, row in enumerate(rows):
        play.turn(index)
        play.write(index, row)
    play.turn(len(rows))
    return play.store


class Play:
    """A store with the transactions and readers that drive it."""

    def __init__(self, begins, stays):
        self.store = Store()
        self._begins = begins
        self._stays = stays
        self._transactions = {}
        self._visits = []  # pairs of the end of a stay and its reader

    def turn(self, index):
        """Closes and opens readers and begins transactions when so many rows are written."""
        for end, reader in self._visits:
            if end == index:
                reader.close()
        for number, view in self._begins.items():
            if view == index:
                self._transactions[number] = self.store.begin()
        for view, end in self._stays:
            if view == index:
                self._visits.append((end, self.store.reader()))

    def write(self, index, row):
        """Makes the call that writes a row, and raises Unplayed if it does not write just this one."""
        try:
            self._call(row)
        except (HoldError, TurnError, AbsentError, SizeError):
            raise Unplayed(index) from None
        if self.store.log[index:] != (row,):
            raise Unplayed(index)

    def _call(self, row):
        store = self.store
        if row[0] == "open":
            self._sign(row[1], row[2])
        elif row[0] in ("commit", "abort"):
            self._end(row[0], row[1])
        elif row[0] == "prepare":
            self._transactions[row[1]].prepare()
        elif row[0] == "clean":
            store.clean(row[1])
        elif row[0] == "tidy":
            page, slots = row[1:]
            store.tidy(page, *slots)
        elif row[0] == "sweep":
            store.sweep()
        elif row[0] == "word":
            store.hear(row[1])
        elif row[0] == "fall":
            store.fall()
        else:
            self._act(row)

    def _sign(self, number, around):
        if around is not None:
            self._transactions[number] = self._transactions[around].inner()
        self._transactions[number].sign()

    def _end(self, word, number):
        transaction = self._transactions[number]
        if transaction.state == "prepared":
            self.store.settle(number, commit=word == "commit")
        elif word == "commit":
            transaction.commit()
        else:
            transaction.abort()

    def _act(self, row):
        transaction = self._transactions[row[1]]
        if row[0] == "put":
            transaction.put(row[4], row[5])
            return
        key = self.store.state[row[2], row[3]][KEY]
        if row[0] == "change":
            transaction.change(key, row[6])
        elif row[0] == "lock":
            transaction.lock(key)
        else:
            # Any deed that sees the version of a refused row is refused.
            transaction.strike(key)
