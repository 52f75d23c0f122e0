"""Stores: houses with transactions, which clean their pages, fall and come back."""

from whoheld.cleaners import Cleaner
from whoheld.recoverers import Recoverer
from whoheld.transactions import Transaction


class Store(Cleaner, Recoverer):
    """A house with transactions."""

    def __init__(self, *, pages=8):
        super().__init__(pages=pages)

    @classmethod
    def of(cls, rows, *, pages=8):
        """A new store with these rows as its log, in which no transaction is open unless it is prepared."""
        store = cls(pages=pages)
        store._fill(rows)
        return store

    def begin(self):
        """A new transaction, which is open."""
        transaction = Transaction(self, len(self._state))
        # Transactions that have ended never open again, and the rows tell of prepared ones.
        self._begun = [other for other in self._begun if other._ending is None] + [transaction]
        return transaction

    def transactions(self):
        """The ascending list of the pairs (number, view) of open and prepared transactions that have a number."""
        begun = [other for other in self._begun if other.state == "open" and other.number is not None]
        return sorted([(other.number, other.view) for other in begun] + self._state.waiting())
