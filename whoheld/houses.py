"""Houses: a log, the state behind it, and readers."""

from whoheld.errors import InvalidPages, InvalidRow
from whoheld.names import is_integer
from whoheld.pages import MOST_PAGES
from whoheld.readers import Reader
from whoheld.rows import is_row, pages_in
from whoheld.states import State


class House:
    """A log, the state behind it, and readers."""

    def __init__(self, *, pages=8):
        if not is_integer(pages) or not 1 <= pages <= MOST_PAGES:
            raise InvalidPages(pages)
        self._page_count = pages
        self._state = State()
        self._readers = []
        # The outer transactions: only a store begins some.
        self._begun = []

    @property
    def log(self):
        """The tuple of the rows."""
        return self._state.rows

    @property
    def state(self):
        """The state behind the rows, which callers only ask."""
        return self._state

    @property
    def page_count(self):
        """The number of pages."""
        return self._page_count

    def take(self, row):
        """Writes a row that is valid behind the log and names pages of the house only."""
        self._need_row(row)
        self._enter(row)

    def reader(self):
        """A new reader, which is open."""
        reader = Reader(self, len(self._state))
        # Readers that have ended never open again.
        self._readers = [other for other in self._readers if other._ending is None] + [reader]
        return reader

    def open_views(self):
        """The ascending list of the views of open readers and transactions and of prepared ones, each once."""
        views = [holder._view for holder in self._readers + self._begun if holder._ending is None]
        return sorted(set(views + [view for _, view in self._state.waiting()]))

    def reading(self, work):
        """Calls `work` with a new reader, which is closed behind the call, and returns what it returns."""
        with self.reader() as reader:
            return work(reader)

    def _need_row(self, row):
        if self._page_count < MOST_PAGES and is_row(row):
            if any([page >= self._page_count for page in pages_in(row)]):
                raise InvalidRow(len(self._state))
        if not self._state.can_stand(row):
            raise InvalidRow(len(self._state))

    def _enter(self, row):
        # What the house writes by itself comes here straight: it is valid.
        self._state.enter(row)
        if row[0] == "fall":
            for holder in self._readers + self._begun:
                holder.finish("fallen")
