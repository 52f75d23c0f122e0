"""The numbers of transactions, and what became of them."""

from whoheld.errors import InvalidRow, NoNumber
from whoheld.names import is_number
from whoheld.rows import is_row

MOST_RUNNING = 4  # an outer transaction and three inner ones


class Fates:
    """The numbers of some rows and what became of them."""

    def __init__(self, *rows):
        self._rows = []
        # By number: the number around it, its open row, its outermost one, and its fate unless it is open.
        self._arounds = {}
        self._firsts = {}
        self._tops = {}
        self._settled = {}
        # By outer transaction: its family, those of it that run from the outside,
        # the row and the view of its prepare row, and the row that ended it.
        self._families = {}
        self._running = {}
        self._prepared = {}
        self._ends = {}
        for row in rows:
            self.take(row)

    def may_take(self, row):
        """Whether any value is a row that may stand next by the rules of numbers."""
        if not is_row(row):
            return False
        if row[0] == "open":
            return self._may_begin(row[1], row[2])
        if row[0] in ("put", "change", "strike", "lock", "refused"):
            return self._is_acting(row[1])
        if row[0] in ("commit", "abort"):
            return self._is_acting(row[1]) or self._is_waiting(row[1])
        if row[0] == "prepare":
            return self._may_prepare(row[1], row[2])
        if row[0] == "word":
            return row[1] is None or row[1] <= len(self._rows)
        return True

    def take(self, row):
        """Takes a row that may stand next."""
        if not self.may_take(row):
            raise InvalidRow(len(self._rows))
        if row[0] == "open":
            self._begin(row[1], row[2])
        elif row[0] == "commit":
            self._commit(row[1])
        elif row[0] == "abort":
            self._abort(row[1])
        elif row[0] == "prepare":
            self._prepared[row[1]] = (len(self._rows), row[2])
            self._running[row[1]] = ()
        elif row[0] == "fall":
            self._fall()
        self._rows.append(row)

    def __len__(self):
        return len(self._rows)

    def __contains__(self, x):
        return is_number(x) and x in self._firsts

    def twin(self):
        """Other fates of the same rows."""
        other = Fates()
        other._rows = list(self._rows)
        other._arounds = dict(self._arounds)
        other._firsts = dict(self._firsts)
        other._tops = dict(self._tops)
        other._settled = dict(self._settled)
        other._families = dict(self._families)
        other._running = dict(self._running)
        other._prepared = dict(self._prepared)
        other._ends = dict(self._ends)
        return other

    @property
    def numbers(self):
        """The ascending tuple of all numbers."""
        return tuple(self._firsts)

    @property
    def outers(self):
        """The ascending tuple of the numbers of outer transactions."""
        return tuple(self._families)

    @property
    def greatest(self):
        """The greatest number, 0 if there is none."""
        return len(self._firsts)

    def outer_of(self, number):
        """The number around it, or None."""
        self._need(number)
        return self._arounds[number]

    def top_of(self, number):
        """The number of the outer transaction of its family."""
        self._need(number)
        return self._tops[number]

    def family(self, number):
        """The ascending tuple of the numbers of its family."""
        self._need(number)
        return self._families[self._tops[number]]

    def first(self, number):
        """The index of its open row."""
        self._need(number)
        return self._firsts[number]

    def prepared(self, number):
        """The pair (row, view) of the prepare row of its outer transaction, or None."""
        self._need(number)
        top = self._tops[number]
        return self._prepared[top] if top in self._prepared else None

    def fate(self, number, *, at=None):
        """The pair of its fate by the rows before `at`, or by all rows, and of the row that decided it."""
        self._need(number)
        if number not in self._settled:
            return ("open", None)
        word, row = self._settled[number]
        if at is not None and at <= row:
            return ("open", None)
        return (word, row)

    def end(self, number):
        """The row that ended the outer transaction of its family, or the number of the rows."""
        self._need(number)
        top = self._tops[number]
        return self._ends[top] if top in self._ends else len(self._rows)

    def commit_of(self, number, *, at=None):
        """The commit row of its outer transaction if it is committed by the rows before `at`, or None."""
        word, row = self.fate(number, at=at)
        return row if word == "committed" else None

    def acting(self, number):
        """The number of the innermost transaction of its family that runs, or None."""
        self._need(number)
        running = self._running[self._tops[number]]
        return running[-1] if len(running) > 0 else None

    def open_numbers(self):
        """The ascending tuple of all numbers that are open."""
        return tuple([number for number in self._firsts if number not in self._settled])

    def _need(self, number):
        if number not in self:
            raise NoNumber(number)

    def _is_acting(self, number):
        return number in self and self.acting(number) == number

    def _is_waiting(self, number):
        return number in self._prepared and number not in self._ends

    def _may_begin(self, number, around):
        if number != len(self._firsts) + 1:
            return False
        if around is None:
            return True
        return self._is_acting(around) and len(self._running[self._tops[around]]) < MOST_RUNNING

    def _may_prepare(self, number, view):
        return self._is_acting(number) and self._arounds[number] is None and view <= self._firsts[number]

    def _begin(self, number, around):
        top = number if around is None else self._tops[around]
        before = () if around is None else self._families[top]
        running = () if around is None else self._running[top]
        self._arounds[number] = around
        self._firsts[number] = len(self._rows)
        self._tops[number] = top
        self._families[top] = before + (number,)
        self._running[top] = running + (number,)

    def _commit(self, number):
        # An inner one stays open until the outer transaction of its family ends.
        if self._arounds[number] is None:
            self._finish(number, "committed")
        else:
            self._leave(number)

    def _abort(self, number):
        if self._arounds[number] is None:
            self._finish(number, "aborted")
            return
        for other in self._families[self._tops[number]]:
            if self._is_within(other, number):
                self._settle(other, "aborted")
        self._leave(number)

    def _fall(self):
        for top in self.outers:
            if len(self._running[top]) > 0:
                self._finish(top, "aborted")

    def _finish(self, top, word):
        for number in self._families[top]:
            self._settle(number, word)
        self._ends[top] = len(self._rows)
        self._running[top] = ()

    def _settle(self, number, word):
        # What was aborted before keeps the first row that aborted it.
        if number not in self._settled:
            self._settled[number] = (word, len(self._rows))

    def _leave(self, number):
        top = self._tops[number]
        self._running[top] = self._running[top][:-1]

    def _is_within(self, number, around):
        while number is not None and number != around:
            number = self._arounds[number]
        return number == around
