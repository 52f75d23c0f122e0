"""Surveys: what one walk through a log finds about its cleanings, its words and its transactions."""

from whoheld.bounds import ceiling_in, floor_in
from whoheld.errors import InvalidRow, NotCleaning, NoTransaction
from whoheld.names import is_integer
from whoheld.slots import ENDER, MAKER
from whoheld.states import State

CLEANING = ("clean", "tidy")
TOUCHING = ("change", "strike", "lock", "refused")


class Survey:
    """What one walk through a log finds. Raises InvalidRow for any value that is not a valid log."""

    def __init__(self, rows):
        if not isinstance(rows, tuple):
            raise InvalidRow(0)
        self._rows = rows
        # By the index of a clean or tidy row its floor, and by that of a span its ceiling.
        self._floors = {}
        self._ceilings = {}
        # By outer transaction, of each row that touches a version: its index, the commit of the maker, and that of
        # the ender or None.
        self._touches = {}
        state = State()
        for index, row in enumerate(rows):
            if not state.can_stand(row):
                raise InvalidRow(index)
            if row[0] in CLEANING:
                self._meet_cleaning(index, row, state)
            else:
                if row[0] in TOUCHING:
                    self._meet_touch(index, row, state)
                state.enter(row)
        self._fates = state.fates_now()
        # By index, of the rows before it: the greatest floor, the last fall, -1 for none of them, and the row of the
        # word that is in force there, or None.
        self._floor_tops = [-1]
        self._last_falls = [-1]
        self._word_rows = [None]
        for index, row in enumerate(rows):
            self._meet_bounds(index, row)
        # By transaction: its range, and its end.
        self._ranges = {}
        self._ends = {}
        for number, first, end, view in self._fates.outer_facts():
            self._ranges[number] = self._found_range(number, first, end, view)
            self._ends[number] = end

    def __len__(self):
        return len(self._rows)

    def need_cleaning(self, row):
        """Raises NotCleaning if any value is not the index of a clean or tidy row."""
        if not is_integer(row) or row not in self._floors:
            raise NotCleaning(row)

    def clean_rows(self):
        """The ascending list of the indexes of the clean rows."""
        return [index for index in self._floors if self._rows[index][0] == "clean"]

    def floor(self, row):
        """The floor of a clean or tidy row."""
        return self._floors[row]

    def ceiling(self, value):
        """The ceiling of a clean row, or None, also for any value that is no index."""
        return self._ceilings[value] if is_integer(value) and value in self._ceilings else None

    def span_pairs(self):
        """The list of the pairs (row, ceiling) of the spans, ascending."""
        return [(row, ceiling) for row, ceiling in self._ceilings.items()]

    def height(self, row):
        """The greatest of the floors up to an index and of the falls before it, or -1."""
        before = max(self._floor_tops[row], self._last_falls[row])
        return max(before, self._floors[row]) if row in self._floors else before

    def all_heights(self):
        """The tuple of the heights for each index, the length of the log included."""
        return tuple([self.height(row) for row in range(len(self._rows) + 1)])

    def heights_shown(self, row):
        """The ascending list of the pairs (row, number) of the rows that show the numbers of a height."""
        falls = [(fall, fall) for fall in self._falls_before(row)]
        return sorted(falls + [(other, floor) for other, floor in self._floors.items() if other <= row])

    def stop_of(self, view, end):
        """The least row at which no reader with this view and end is left, or None."""
        # The floors of rows ahead of the view are less than it.
        if self._floor_tops[end] < view and self._last_falls[end] < view:
            return None
        stops = [fall for fall in self._falls_before(end) if view <= fall]
        stops = stops + [row for row, floor in self._floors.items() if view <= row < end and floor >= view]
        return min(stops)

    def word_row(self, row):
        """The row of the word in force at an index, or None."""
        return self._word_rows[row]

    def word_before(self, row):
        """The word in force at an index, or None."""
        told = self._word_rows[row]
        return None if told is None else self._rows[told][1]

    def breaks_word(self, row):
        """Whether a clean row has a word in force that is not greater than its floor."""
        word = self.word_before(row)
        return word is not None and word <= self._floors[row]

    def all_outers(self):
        """The ascending list of the numbers of the transactions."""
        return list(self._ranges)

    def is_outer(self, value):
        """Whether any value is the number of a transaction."""
        return is_integer(value) and value in self._ranges

    def need_outer(self, number):
        """Raises NoTransaction if any value is not the number of a transaction."""
        if not self.is_outer(number):
            raise NoTransaction(number)

    def end_row(self, number):
        """The end of a transaction."""
        return self._ends[number]

    def commit_before(self, number, at):
        """The commit of a number by the rows before an index behind its open row, or None."""
        return self._fates.commit_of(number, at=at)

    def lows(self, number):
        """The list of the pairs (bound, row) of the rows that bind the view of a transaction from below."""
        first, end = self._fates.first(number), self._ends[number]
        found = [(made + 1, index) for index, made, _ in self._touches_of(number)]
        found = found + [(fall + 1, fall) for fall in self._falls_before(first)]
        found = found + [(floor + 1, row) for row, floor in self._floors.items() if row < end]
        return found + self._prepared_bounds(number)

    def highs(self, number):
        """The list of the pairs (bound, row) of the rows that bind the view of a transaction from above."""
        first = self._fates.first(number)
        found = [(ended, index) for index, _, ended in self._touches_of(number) if ended is not None]
        return [(first, first)] + found + self._prepared_bounds(number)

    def stretch(self, number):
        """The range (low, high) of a transaction."""
        return self._ranges[number]

    def lowest_views(self):
        """The ascending tuple of the pairs (number, low) of the transactions."""
        return tuple([(number, low) for number, (low, _) in self._ranges.items()])

    def holding_word(self, row):
        """The word in force at a span if it holds it, otherwise None."""
        word = self.word_before(row)
        return word if word is not None and word <= self._ceilings[row] else None

    def able_numbers(self, row):
        """The ascending list of the numbers of the transactions that can hold a span."""
        ceiling = self._ceilings[row]
        able = [number for number, (low, _) in self._ranges.items() if low <= ceiling]
        return [number for number in able if self._ends[number] > row]

    def open_pairs(self):
        """The list of the pairs (row, ceiling) of the open spans, ascending."""
        unheard = [row for row in self._ceilings if self.holding_word(row) is None]
        return [(row, self._ceilings[row]) for row in unheard if len(self.able_numbers(row)) == 0]

    def _touches_of(self, number):
        return self._touches[number] if number in self._touches else []

    def _prepared_bounds(self, number):
        prepared = self._fates.prepared(number)
        return [] if prepared is None else [(prepared[1], prepared[0])]

    def _falls_before(self, row):
        # The last falls tell them all.
        return sorted(set([fall for fall in self._last_falls[:row + 1] if fall >= 0]))

    def _meet_cleaning(self, index, row, state):
        self._floors[index] = floor_in(state.fates_now(), state.images_on(row[1]), row)
        state.enter(row)
        if row[0] == "clean":
            ceiling = ceiling_in(state.fates_now(), state.images_on(row[1]))
            if ceiling is not None:
                self._ceilings[index] = ceiling

    def _meet_bounds(self, index, row):
        top, fall, told = self._floor_tops[-1], self._last_falls[-1], self._word_rows[-1]
        if index in self._floors:
            top = max(top, self._floors[index])
        elif row[0] == "fall":
            fall, told = index, None
        elif row[0] == "word":
            told = None if row[1] is None else index
        self._floor_tops.append(top)
        self._last_falls.append(fall)
        self._word_rows.append(told)

    def _meet_touch(self, index, row, state):
        image, fates = state.images_on(row[2])[row[3]], state.fates_now()
        made = fates.commit_row(image[MAKER])
        # Versions of the own family are not committed while one of it acts.
        if made is not None:
            touch = (index, made, fates.commit_row(image[ENDER]))
            self._touches.setdefault(fates.top_of(row[1]), []).append(touch)

    def _found_range(self, number, first, end, view):
        low = max(self._floor_tops[end], self._last_falls[first]) + 1
        high = first
        for _, made, ended in self._touches_of(number):
            low = max(low, made + 1)
            if ended is not None:
                high = min(high, ended)
        return (low, high) if view is None else (max(low, view), min(high, view))
