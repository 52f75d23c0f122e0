"""Logs: valid logs that never change."""

from whoheld.errors import NoRow, TooLong
from whoheld.fates import Fates
from whoheld.names import is_below
from whoheld.rows import numbers_in
from whoheld.rowtexts import read_rows, write_rows
from whoheld.states import State


class Log:
    """A valid log of at most 400 rows."""

    MOST = 400

    def __init__(self, *rows):
        if len(rows) > self.MOST:
            raise TooLong(self.MOST)
        State.of(rows)
        self._rows = rows

    @classmethod
    def read(cls, text):
        """The log whose rows a text writes."""
        rows = read_rows(text)
        return cls(*rows)

    @property
    def rows(self):
        """The tuple of the rows."""
        return self._rows

    def state_behind(self):
        """A new state behind the rows."""
        return State.of(self._rows)

    def __str__(self):
        return str(write_rows(self._rows))

    def __repr__(self):
        return f"Log({len(self._rows)} rows)"

    def __len__(self):
        return len(self._rows)

    def __getitem__(self, at):
        if not is_below(at, len(self._rows)):
            raise NoRow(at)
        return self._rows[at]

    def __iter__(self):
        raise TypeError("a log is not iterated over; its rows are")

    def __eq__(self, other):
        return isinstance(other, Log) and self._rows == other._rows

    def later(self, *rows):
        """The log with these rows behind the others."""
        longer = self._rows + rows
        return Log(*longer)

    def cut(self, count):
        """The log of the first rows, so many."""
        if not is_below(count, len(self._rows) + 1):
            raise NoRow(count)
        return self._beginning(count)

    def beginnings(self):
        """Yields the logs of the first 0, 1 .. rows, up to the whole one."""
        for count in range(len(self._rows) + 1):
            yield self._beginning(count)

    def of_family(self, number):
        """Yields the pairs (index, row) of the rows that name a number of the family of a transaction."""
        rows = self._rows
        family = Fates(*rows).family(number)
        for index, row in enumerate(rows):
            if any([other in family for other in numbers_in(row)]):
                yield (index, row)

    def _beginning(self, count):
        # A beginning of a valid log is valid.
        beginning = Log()
        beginning._rows = self._rows[:count]
        return beginning
