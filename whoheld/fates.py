"""The numbers of transactions, and what became of them."""

from whoheld.errors import InvalidRow, NoNumber
from whoheld.names import is_number
from whoheld.rows import is_row

MOST_RUNNING = 4  # an outer transaction and three inner ones


class Fates:
    """The numbers of some rows and what became of them."""

    def __init__(self, *rows):
        self._rows = []
        # By number: the number around it, its open row, its outermost one, and the row that committed or aborted it.
        self._arounds = {}
        self._firsts = {}
        self._tops = {}
        self._commits = {}
        self._aborts = {}
        # By outer transaction: its family, those of it that run from the outside,
        # the row and the view of its prepare row, and the row that ended it.
        self._families = {}
        self._running = {}
        self._prepared = {}
        self._ends = {}
        for row in rows:
            self.take(row)

    def may_take(self, row):
        """Whether any value is a row that may stand next by the rules of numbers."""
        return is_row(row) and self.allows(row)

    def take(self, row):
        """Takes a row that may stand next."""
        if not self.may_take(row):
            raise InvalidRow(len(self._rows))
        self.enter(row)

    def allows(self, row):
        """Whether a row may stand next by the rules of numbers."""
        word = row[0]
        if word == "open":
            return self._may_begin(row[1], row[2])
        if word in ("put", "change", "strike", "lock", "refused"):
            return self._is_acting(row[1])
        if word in ("commit", "abort"):
            return self._is_acting(row[1]) or self._is_waiting(row[1])
        if word == "prepare":
            return self._may_prepare(row[1], row[2])
        if word == "word":
            return row[1] is None or row[1] <= len(self._rows)
        return True

    def enter(self, row):
        """Takes a row of which it is known that it may stand next."""
        word = row[0]
        if word == "open":
            self._begin(row[1], row[2])
        elif word == "commit":
            self._commit(row[1])
        elif word == "abort":
            self._abort(row[1])
        elif word == "prepare":
            self._prepared[row[1]] = (len(self._rows), row[2])
            self._running[row[1]] = ()
        elif word == "fall":
            self._fall()
        self._rows.append(row)

    def __len__(self):
        return len(self._rows)

    def __contains__(self, x):
        return is_number(x) and x in self._firsts

    def twin(self):
        """Other fates of the same rows."""
        other = Fates()
        other._rows = list(self._rows)
        other._arounds = dict(self._arounds)
        other._firsts = dict(self._firsts)
        other._tops = dict(self._tops)
        other._commits = dict(self._commits)
        other._aborts = dict(self._aborts)
        other._families = dict(self._families)
        other._running = dict(self._running)
        other._prepared = dict(self._prepared)
        other._ends = dict(self._ends)
        return other

    @property
    def numbers(self):
        """The ascending tuple of all numbers."""
        return tuple(self._firsts)

    @property
    def outers(self):
        """The ascending tuple of the numbers of outer transactions."""
        return tuple(self._families)

    @property
    def greatest(self):
        """The greatest number, 0 if there is none."""
        return len(self._firsts)

    def outer_of(self, number):
        """The number around it, or None."""
        self._need(number)
        return self._arounds[number]

    def top_of(self, number):
        """The number of the outer transaction of its family."""
        self._need(number)
        return self._tops[number]

    def family(self, number):
        """The ascending tuple of the numbers of its family."""
        self._need(number)
        return self._families[self._tops[number]]

    def first(self, number):
        """The index of its open row."""
        self._need(number)
        return self._firsts[number]

    def prepared(self, number):
        """The pair (row, view) of the prepare row of its outer transaction, or None."""
        self._need(number)
        top = self._tops[number]
        return self._prepared[top] if top in self._prepared else None

    def fate(self, number, *, at=None):
        """The pair of its fate by the rows before `at`, or by all rows, and of the row that decided it."""
        self._need(number)
        if number in self._commits:
            word, row = "committed", self._commits[number]
        elif number in self._aborts:
            word, row = "aborted", self._aborts[number]
        else:
            return ("open", None)
        return ("open", None) if at is not None and at <= row else (word, row)

    def end(self, number):
        """The row that ended the outer transaction of its family, or the number of the rows."""
        self._need(number)
        top = self._tops[number]
        return self._ends[top] if top in self._ends else len(self._rows)

    def commit_of(self, number, *, at=None):
        """The commit row of its outer transaction if it is committed by the rows before `at`, or None."""
        word, row = self.fate(number, at=at)
        return row if word == "committed" else None

    def acting(self, number):
        """The number of the innermost transaction of its family that runs, or None."""
        self._need(number)
        running = self._running[self._tops[number]]
        return running[-1] if len(running) > 0 else None

    def open_numbers(self):
        """The ascending tuple of all numbers that are open."""
        return tuple([number for number in self._firsts if self.is_open(number)])

    def commit_row(self, number):
        """The row of "committed" in the fate of a number, or None; None for None."""
        return self._commits.get(number)

    def is_aborted(self, number):
        """Whether a number is aborted; None is not."""
        return number in self._aborts

    def is_open(self, number):
        """Whether a number is open; None is not."""
        return number is not None and number not in self._commits and number not in self._aborts

    def own_numbers(self, number):
        """The list of the numbers of its family that are not aborted; none for any value that is no number here."""
        if number is None or number not in self:
            return []
        return [other for other in self._families[self._tops[number]] if other not in self._aborts]

    def rivals(self, number, others):
        """The list of the outer transactions of those of `others` that are open and of another family."""
        rivals = [self._tops[other] for other in others if self.is_open(other)]
        if len(rivals) == 0:
            return rivals
        # Any value that is no number here is a family by itself.
        mine = self._tops[number] if number in self else None
        return [top for top in rivals if top != mine]

    def waiting(self):
        """The ascending list of the pairs (number, view) of the prepared transactions that have not ended."""
        return sorted([(number, view) for number, (_, view) in self._prepared.items() if number not in self._ends])

    def outer_facts(self):
        """The list of the outer transactions: number, open row, end, and the view of the prepare row or None."""
        open_end = len(self._rows)
        views = {number: view for number, (_, view) in self._prepared.items()}
        return [
            (number, self._firsts[number], self._ends.get(number, open_end), views.get(number))
            for number in self._families
        ]

    def _need(self, number):
        if not is_number(number) or number not in self._firsts:
            raise NoNumber(number)

    def _is_acting(self, number):
        if number not in self._tops:
            return False
        running = self._running[self._tops[number]]
        return len(running) > 0 and running[-1] == number

    def _is_waiting(self, number):
        return number in self._prepared and number not in self._ends

    def _may_begin(self, number, around):
        if number != len(self._firsts) + 1:
            return False
        if around is None:
            return True
        return self._is_acting(around) and len(self._running[self._tops[around]]) < MOST_RUNNING

    def _may_prepare(self, number, view):
        return self._is_acting(number) and self._arounds[number] is None and view <= self._firsts[number]

    def _begin(self, number, around):
        top = number if around is None else self._tops[around]
        before = () if around is None else self._families[top]
        running = () if around is None else self._running[top]
        self._arounds[number] = around
        self._firsts[number] = len(self._rows)
        self._tops[number] = top
        self._families[top] = before + (number,)
        self._running[top] = running + (number,)

    def _commit(self, number):
        # An inner one stays open until the outer transaction of its family ends.
        if self._arounds[number] is None:
            self._finish(number, "committed")
        else:
            self._leave(number)

    def _abort(self, number):
        if self._arounds[number] is None:
            self._finish(number, "aborted")
            return
        for other in self._families[self._tops[number]]:
            if self._is_within(other, number):
                self._settle(other, "aborted")
        self._leave(number)

    def _fall(self):
        for top in self.outers:
            if len(self._running[top]) > 0:
                self._finish(top, "aborted")

    def _finish(self, top, word):
        for number in self._families[top]:
            self._settle(number, word)
        self._ends[top] = len(self._rows)
        self._running[top] = ()

    def _settle(self, number, word):
        # What was aborted before keeps the first row that aborted it.
        if word == "committed" and number not in self._aborts:
            self._commits[number] = len(self._rows)
        elif number not in self._aborts:
            self._aborts[number] = len(self._rows)

    def _leave(self, number):
        top = self._tops[number]
        self._running[top] = self._running[top][:-1]

    def _is_within(self, number, around):
        while number is not None and number != around:
            number = self._arounds[number]
        return number == around
