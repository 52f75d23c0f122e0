"""Recoverers: houses that fall and come back."""

from whoheld.errors import InvalidLoss, InvalidRow, NotPrepared, Unsettled
from whoheld.houses import House
from whoheld.names import is_below, is_number


class Recoverer(House):
    """A house that falls and comes back."""

    def __init__(self, *, pages=8):
        super().__init__(pages=pages)
        self._synced = 0

    @classmethod
    def of(cls, rows, *, pages=8):
        """A new house with these rows as its log, in which no transaction is open unless it is prepared."""
        house = cls(pages=pages)
        house._fill(rows)
        return house

    @property
    def synced(self):
        """How many rows a fall cannot lose."""
        return self._synced

    def sync(self):
        """Keeps all rows so that no fall can lose them."""
        self._synced = len(self._state)

    def fall(self, *, lost=0):
        """Loses the last rows and writes a fall row."""
        if not is_below(lost, len(self._state) - self._synced + 1):
            raise InvalidLoss(lost)
        if lost > 0:
            self._state.lose(lost)
        self._enter(("fall",))

    def settle(self, number, *, commit=True):
        """Commits a prepared transaction, or aborts it."""
        if not is_number(number) or number not in [waiting for waiting, _ in self._state.waiting()]:
            raise NotPrepared(number)
        self._enter(("commit" if commit else "abort", number))

    def _fill(self, rows):
        if not isinstance(rows, tuple):
            raise InvalidRow(0)
        for row in rows:
            self.take(row)
        fates = self._state.fates()
        for number in fates.open_numbers():
            # The least open number of a family is that of its outer transaction.
            if fates.prepared(number) is None:
                raise Unsettled(number)
        self.sync()

    def _enter(self, row):
        super()._enter(row)
        if row[0] == "fall" or (row[0] in ("commit", "abort", "prepare") and self._state.is_outer(row[1])):
            self.sync()
