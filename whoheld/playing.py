"""Playing: driving a store so that it writes the rows of a log."""

from whoheld.errors import AbsentError, HoldError, InvalidRow, NoNumber, NoSlot, SizeError, TurnError, Unplayed
from whoheld.rows import is_row
from whoheld.slots import KEY, is_version
from whoheld.states import State
from whoheld.store import Store


def played(rows, views=(), stays=()):
    """The store that was driven with these views and stays so that it wrote the rows of a valid log."""
    if not isinstance(rows, tuple):
        raise InvalidRow(0)
    if not all([is_row(row) for row in rows]):
        # The first one that is not valid may be ahead of the first one that is no row.
        State.of(rows)
    begins = {row[1]: index for index, row in enumerate(rows) if row[0] == "open" and row[2] is None}
    for number, view in views:
        begins[number] = view
    play = Play(begins, stays)
    try:
        play.write_all(rows)
    except Unplayed:
        # What a store writes is valid, so rows that are not valid come to this, too; they are told first.
        State.of(rows)
        raise
    return play.store


class Play:
    """A store with the transactions and readers that drive it."""

    def __init__(self, begins, stays):
        self.store = Store()
        self._transactions = {}
        # By the number of rows that are written then: the transactions that begin, the ends of the stays that begin,
        # and the readers that are closed.
        self._begins = {}
        self._visits = {}
        self._closings = {}
        for number, view in begins.items():
            self._begins.setdefault(view, []).append(number)
        for view, end in stays:
            self._visits.setdefault(view, []).append(end)

    def write_all(self, rows):
        """Makes the calls that write the rows; raises Unplayed at the first one that is not written just so."""
        for index, row in enumerate(rows):
            self._turn(index)
            self._write(index, row)
        self._turn(len(rows))

    def _turn(self, index):
        for reader in self._closings.get(index, ()):
            reader.close()
        for number in self._begins.get(index, ()):
            self._transactions[number] = self.store.begin()
        for end in self._visits.get(index, ()):
            self._closings.setdefault(end, []).append(self.store.reader())

    def _write(self, index, row):
        try:
            self._call(row)
        except (HoldError, TurnError, AbsentError, SizeError):
            raise Unplayed(index) from None
        if self.store.state.rows_from(index) != [row]:
            raise Unplayed(index)

    def _transaction(self, number):
        if number not in self._transactions:
            raise NoNumber(number)
        return self._transactions[number]

    def _call(self, row):
        store = self.store
        if row[0] == "open":
            self._sign(row[1], row[2])
        elif row[0] in ("commit", "abort"):
            self._end(row[0], row[1])
        elif row[0] == "prepare":
            self._transaction(row[1]).prepare()
        elif row[0] == "clean":
            store.clean(row[1])
        elif row[0] == "tidy":
            page, slots = row[1:]
            store.tidy(page, *slots)
        elif row[0] == "sweep":
            store.sweep()
        elif row[0] == "word":
            store.hear(row[1])
        elif row[0] == "fall":
            store.fall()
        else:
            self._act(row)

    def _sign(self, number, around):
        if around is not None:
            self._transactions[number] = self._transaction(around).inner()
        self._transaction(number).sign()

    def _end(self, word, number):
        transaction = self._transaction(number)
        if transaction.state == "prepared":
            self.store.settle(number, commit=word == "commit")
        elif word == "commit":
            transaction.commit()
        else:
            transaction.abort()

    def _act(self, row):
        transaction = self._transaction(row[1])
        if row[0] == "put":
            transaction.put(row[4], row[5])
            return
        image = self.store.state[row[2], row[3]]
        if not is_version(image):
            raise NoSlot(row[3])
        key = image[KEY]
        if row[0] == "change":
            transaction.change(key, row[6])
        elif row[0] == "lock":
            transaction.lock(key)
        else:
            # Any deed that sees the version of a refused row is refused.
            transaction.strike(key)
