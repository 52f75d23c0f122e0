"""Far copies: they take the rows of a log one by one."""

from whoheld.bounds import floor_in
from whoheld.errors import InvalidRow, Strayed
from whoheld.houses import House
from whoheld.rows import pages_in


class Far(House):
    """A far copy."""

    def __init__(self, *, pages=8):
        super().__init__(pages=pages)
        self._cancelled = []

    @property
    def position(self):
        """The number of rows that it took."""
        return len(self._state)

    @property
    def least_view(self):
        """Its word: the least view of its open readers, or None."""
        return min([reader.view for reader in self._readers if reader.state == "open"], default=None)

    @property
    def cancelled(self):
        """The tuple of the views of the readers that were cancelled, in the order in which they were."""
        return tuple(self._cancelled)

    def take(self, row):
        """Takes a row and cancels the readers that it may remove something from; a fall ends none of them."""
        self._need_row(row)
        if row[0] in ("clean", "tidy"):
            self._cancel(floor_in(self._state.fates_now(), self._state.images_on(row[1]), row))
        self._state.enter(row)

    def follow(self, store):
        """Takes the synced rows of a store that it did not take yet and returns how many these were."""
        rows = store.log[:store.synced]
        taken = self.log
        if taken != rows[:len(taken)]:
            for index, (mine, other) in enumerate(zip(taken, rows)):
                if mine != other:
                    raise Strayed(index)
            raise Strayed(len(rows))
        added = rows[len(taken):]
        # A row that names a page which is not here is told before any row is taken.
        for at, row in enumerate(added):
            if any([page >= self._page_count for page in pages_in(row)]):
                raise InvalidRow(len(taken) + at)
        for row in added:
            self.take(row)
        return len(added)

    def _cancel(self, floor):
        for reader in self._readers:
            if reader.view <= floor and reader.finish("cancelled"):
                self._cancelled.append(reader.view)
