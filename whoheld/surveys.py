"""Surveys: what one walk through a log finds about its cleanings, its words and its transactions."""

from whoheld.bounds import ceiling_in, commit_in, floor_in
from whoheld.errors import InvalidRow, NotCleaning, NoTransaction
from whoheld.names import is_integer
from whoheld.rows import touched
from whoheld.slots import ENDER, MAKER
from whoheld.states import State


class Survey:
    """What one walk through a log finds. Raises InvalidRow for any value that is not a valid log."""

    def __init__(self, rows):
        if not isinstance(rows, tuple):
            raise InvalidRow(0)
        self._rows = rows
        # By the index of a clean or tidy row its floor, and by that of a span its ceiling.
        self._floors = {}
        self._ceilings = {}
        # By outer transaction, of each row that touches a version: its index, the commit of the maker, and that of
        # the ender or None.
        self._touches = {}
        state = State()
        for index, row in enumerate(rows):
            pages = state.pages
            state.apply(row)
            if row[0] in ("clean", "tidy"):
                self._meet_cleaning(index, row, state, pages[row[1]])
            elif touched(row) is not None:
                self._meet_touch(index, row, state, pages[row[2]][row[3]])
        self._fates = state.fates()
        self._falls = [index for index, row in enumerate(rows) if row[0] == "fall"]
        self._heights = self._found_heights()
        self._word_rows = self._found_word_rows()
        self._stretches = {number: self._found_stretch(number) for number in self._fates.outers}

    def __len__(self):
        return len(self._rows)

    def need_cleaning(self, row):
        """Raises NotCleaning if any value is not the index of a clean or tidy row."""
        if not is_integer(row) or row not in self._floors:
            raise NotCleaning(row)

    def clean_rows(self):
        """The ascending list of the indexes of the clean rows."""
        return [index for index in self._floors if self._rows[index][0] == "clean"]

    def floor(self, row):
        """The floor of a clean or tidy row."""
        return self._floors[row]

    def ceiling(self, value):
        """The ceiling of a clean row, or None, also for any value that is no index."""
        return self._ceilings[value] if is_integer(value) and value in self._ceilings else None

    def span_pairs(self):
        """The list of the pairs (row, ceiling) of the spans, ascending."""
        return [(row, ceiling) for row, ceiling in self._ceilings.items()]

    def height(self, row):
        """The greatest of the floors up to an index and of the falls before it, or -1."""
        return self._heights[row]

    def all_heights(self):
        """The tuple of the heights for each index, the length of the log included."""
        return tuple(self._heights)

    def heights_shown(self, row):
        """The ascending list of the pairs (row, number) of the rows that show the numbers of a height."""
        falls = [(fall, fall) for fall in self._falls if fall < row]
        return sorted(falls + [(other, floor) for other, floor in self._floors.items() if other <= row])

    def stop_of(self, view, end):
        """The least row at which no reader with this view and end is left, or None."""
        stops = [fall for fall in self._falls if view <= fall < end]
        stops = stops + [row for row, floor in self._floors.items() if view <= row < end and floor >= view]
        return min(stops, default=None)

    def word_row(self, row):
        """The row of the word in force at an index, or None."""
        return self._word_rows[row]

    def word_before(self, row):
        """The word in force at an index, or None."""
        told = self._word_rows[row]
        return None if told is None else self._rows[told][1]

    def breaks_word(self, row):
        """Whether a clean row has a word in force that is not greater than its floor."""
        word = self.word_before(row)
        return word is not None and word <= self._floors[row]

    def all_outers(self):
        """The ascending list of the numbers of the transactions."""
        return list(self._fates.outers)

    def is_outer(self, value):
        """Whether any value is the number of a transaction."""
        return is_integer(value) and value in self._stretches

    def need_outer(self, number):
        """Raises NoTransaction if any value is not the number of a transaction."""
        if not self.is_outer(number):
            raise NoTransaction(number)

    def end_row(self, number):
        """The end of a transaction."""
        return self._fates.end(number)

    def commit_before(self, number, at):
        """The commit of a number by the rows before an index behind its open row, or None."""
        return self._fates.commit_of(number, at=at)

    def lows(self, number):
        """The list of the pairs (bound, row) of the rows that bind the view of a transaction from below."""
        first, end = self._fates.first(number), self._fates.end(number)
        found = [(made + 1, index) for index, made, _ in self._touches_of(number)]
        found = found + [(fall + 1, fall) for fall in self._falls if fall < first]
        found = found + [(floor + 1, row) for row, floor in self._floors.items() if row < end]
        return found + self._prepared_bounds(number)

    def highs(self, number):
        """The list of the pairs (bound, row) of the rows that bind the view of a transaction from above."""
        first = self._fates.first(number)
        found = [(ended, index) for index, _, ended in self._touches_of(number) if ended is not None]
        return [(first, first)] + found + self._prepared_bounds(number)

    def stretch(self, number):
        """The range (low, high) of a transaction."""
        return self._stretches[number]

    def lowest_views(self):
        """The ascending tuple of the pairs (number, low) of the transactions."""
        return tuple([(number, low) for number, (low, _) in self._stretches.items()])

    def holding_word(self, row):
        """The word in force at a span if it holds it, otherwise None."""
        word = self.word_before(row)
        return word if word is not None and word <= self._ceilings[row] else None

    def able_numbers(self, row):
        """The ascending list of the numbers of the transactions that can hold a span."""
        lasting = [number for number in self._stretches if self.end_row(number) > row]
        return [number for number in lasting if self.stretch(number)[0] <= self._ceilings[row]]

    def open_pairs(self):
        """The list of the pairs (row, ceiling) of the open spans, ascending."""
        unheard = [row for row in self._ceilings if self.holding_word(row) is None]
        return [(row, self._ceilings[row]) for row in unheard if len(self.able_numbers(row)) == 0]

    def _touches_of(self, number):
        return self._touches[number] if number in self._touches else []

    def _prepared_bounds(self, number):
        prepared = self._fates.prepared(number)
        return [] if prepared is None else [(prepared[1], prepared[0])]

    def _meet_cleaning(self, index, row, state, images):
        self._floors[index] = floor_in(state, images, row)
        if row[0] == "clean":
            ceiling = ceiling_in(state, state[row[1]])
            if ceiling is not None:
                self._ceilings[index] = ceiling

    def _meet_touch(self, index, row, state, image):
        made = commit_in(state, image[MAKER])
        # Versions of the own family are not committed while one of it acts.
        if made is not None:
            touch = (index, made, commit_in(state, image[ENDER]))
            self._touches.setdefault(state.top_of(row[1]), []).append(touch)

    def _found_stretch(self, number):
        lows = [bound for bound, _ in self.lows(number)]
        highs = [bound for bound, _ in self.highs(number)]
        return (max([0] + lows), min(highs))

    def _found_heights(self):
        heights = []
        height = -1
        for index in range(len(self._rows) + 1):
            if index > 0 and self._rows[index - 1][0] == "fall":
                height = max(height, index - 1)
            if index in self._floors:
                height = max(height, self._floors[index])
            heights.append(height)
        return heights

    def _found_word_rows(self):
        found = [None]
        for index, row in enumerate(self._rows):
            if row[0] == "fall" or row == ("word", None):
                found.append(None)
            else:
                found.append(index if row[0] == "word" else found[-1])
        return found
