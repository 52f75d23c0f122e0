"""What a log shows, in one object."""

from whoheld.bars import unbarred
from whoheld.errors import NotSpan
from whoheld.fewest import apart_rows, groups_in, paper_in, stays_of
from whoheld.holders import holders_in
from whoheld.names import is_integer


class Held:
    """What a log that is not barred shows. It never changes."""

    def __init__(self, rows):
        survey = unbarred(rows)
        groups = groups_in(survey)
        self._rows = rows
        self._survey = survey
        self._ceilings = dict(survey.span_pairs())
        self._views = survey.lowest_views()
        self._numbers = survey.all_outers()
        self._stays = stays_of(groups)
        self._apart = apart_rows(groups)
        self._paper = paper_in(survey)

    @property
    def rows(self):
        """The tuple of the rows."""
        return self._rows

    @property
    def fewest(self):
        """The fewest readers."""
        return len(self._stays)

    @property
    def views(self):
        """The ascending tuple of the pairs (number, low) of all transactions."""
        return self._views

    @property
    def stays(self):
        """The ascending tuple of so many stays that explain the log with these views."""
        return self._stays

    @property
    def apart(self):
        """The ascending tuple of the rows of so many open spans, any two of them apart."""
        return self._apart

    @property
    def paper(self):
        """The paper of the views, the stays and the spans that are apart."""
        return self._paper

    def spans(self):
        """Yields the pairs (row, ceiling) of all spans, ascending."""
        yield from self._survey.span_pairs()

    def who(self, row):
        """The word, the numbers and the views of a reader that hold, surely hold or can hold a span."""
        return holders_in(self._survey, row)

    def range_of(self, number):
        """The range (low, high) of a transaction."""
        self._survey.need_outer(number)
        return self._survey.stretch(number)

    def later(self, *rows):
        """What the log with these rows behind it shows."""
        return Held(self._rows + rows)

    def __contains__(self, x):
        return is_integer(x) and x in self._numbers

    def __getitem__(self, at):
        if not is_integer(at) or at not in self._ceilings:
            raise NotSpan(at)
        return self._ceilings[at]

    def __iter__(self):
        raise TypeError("what a log shows is not iterated over")

    def __len__(self):
        return len(self._ceilings)

    def __eq__(self, other):
        return isinstance(other, Held) and self._rows == other._rows

    def __repr__(self):
        return f"Held({len(self._rows)} rows, {len(self._ceilings)} spans, {len(self._stays)} readers)"
