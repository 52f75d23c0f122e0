"""Surveys: what one walk through a log finds about its cleanings and its transactions."""

from whoheld.bounds import ceiling_in, commit_in, floor_in
from whoheld.errors import InvalidRow, NoTransaction
from whoheld.rows import touched
from whoheld.slots import ENDER, MAKER
from whoheld.states import State


class Survey:
    """What one walk through a log finds. Raises InvalidRow for any value that is not a valid log."""

    def __init__(self, rows):
        if not isinstance(rows, tuple):
            raise InvalidRow(0)
        self._rows = rows
        # By the index of a clean or tidy row its floor, and by that of a span its ceiling.
        self._floors = {}
        self._ceilings = {}
        # The rows that touch a version: index, number, commit of the maker, commit of the ender or None.
        self._touches = []
        state = State()
        for index, row in enumerate(rows):
            pages = state.pages
            state.apply(row)
            if row[0] in ("clean", "tidy"):
                self._meet_cleaning(index, row, state, pages[row[1]])
            elif touched(row) is not None:
                self._meet_touch(index, row, state, pages[row[2]][row[3]])
        self._fates = state.fates()
        self._falls = [index for index, row in enumerate(rows) if row[0] == "fall"]
        self._heights = self._found_heights()
        self._stretches = {number: self._found_stretch(number) for number in self._fates.outers}

    def rows_before(self, row):
        """The tuple of the rows before an index."""
        return self._rows[:row]

    def is_cleaning(self, row):
        """Whether an integer is the index of a clean or tidy row."""
        return row in self._floors

    def floor(self, row):
        """The floor of a clean or tidy row."""
        return self._floors[row]

    def ceiling(self, row):
        """The ceiling of a clean row, or None."""
        return self._ceilings[row] if row in self._ceilings else None

    def span_pairs(self):
        """The list of the pairs (row, ceiling) of the spans, ascending."""
        return [(row, ceiling) for row, ceiling in self._ceilings.items()]

    def height(self, row):
        """The greatest of the floors up to an index and of the falls before it, or -1."""
        return self._heights[row]

    def all_heights(self):
        """The tuple of the heights for each index, the length of the log included."""
        return tuple(self._heights)

    def all_outers(self):
        """The ascending list of the numbers of the transactions."""
        return list(self._fates.outers)

    def need_outer(self, number):
        """Raises NoTransaction if any value is not the number of a transaction."""
        if number not in self._fates or self._fates.outer_of(number) is not None:
            raise NoTransaction(number)

    def end_row(self, number):
        """The end of a transaction."""
        return self._fates.end(number)

    def lows(self, number):
        """The list of the pairs (bound, row) of the rows that bind the view of a transaction from below."""
        first, end = self._fates.first(number), self._fates.end(number)
        found = [(made + 1, index) for index, other, made, _ in self._touches if self._is_of(other, number)]
        found = found + [(fall + 1, fall) for fall in self._falls if fall < first]
        found = found + [(floor + 1, row) for row, floor in self._floors.items() if row < end]
        return found + self._prepared_bounds(number)

    def highs(self, number):
        """The list of the pairs (bound, row) of the rows that bind the view of a transaction from above."""
        first = self._fates.first(number)
        touches = [touch for touch in self._touches if self._is_of(touch[1], number)]
        found = [(ended, index) for index, _, _, ended in touches if ended is not None]
        return [(first, first)] + found + self._prepared_bounds(number)

    def stretch(self, number):
        """The range (low, high) of a transaction."""
        return self._stretches[number]

    def _is_of(self, number, top):
        return self._fates.top_of(number) == top

    def _prepared_bounds(self, number):
        prepared = self._fates.prepared(number)
        return [] if prepared is None else [(prepared[1], prepared[0])]

    def _meet_cleaning(self, index, row, state, images):
        self._floors[index] = floor_in(state, images, row)
        if row[0] == "clean":
            ceiling = ceiling_in(state, state[row[1]])
            if ceiling is not None:
                self._ceilings[index] = ceiling

    def _meet_touch(self, index, row, state, image):
        made = commit_in(state, image[MAKER])
        # Versions of the own family are not committed while one of it acts.
        if made is not None:
            self._touches.append((index, row[1], made, commit_in(state, image[ENDER])))

    def _found_stretch(self, number):
        lows = [bound for bound, _ in self.lows(number)]
        highs = [bound for bound, _ in self.highs(number)]
        return (max([0] + lows), min(highs))

    def _found_heights(self):
        heights = []
        height = -1
        for index in range(len(self._rows) + 1):
            if index > 0 and self._rows[index - 1][0] == "fall":
                height = max(height, index - 1)
            if index in self._floors:
                height = max(height, self._floors[index])
            heights.append(height)
        return heights
