"""The definitions of bars, papers and lacks [13] to [20] once more, by going through all that may be one.

`Showing(rows)` tells what the rows of a valid log show. `Evidence` in `naive` goes by the views that somebody may have
had; here the bounds of [14] and [15] are written out, and `barred_by_views` compares the two.
"""

from itertools import combinations

from naive import TOUCHING, Evidence


def kinds_fit(value, *kinds):
    """Whether a value is a tuple of parts of just these kinds (True is not 1)."""
    return type(value) is tuple and len(value) == len(kinds) and all(
        type(part) is kind for part, kind in zip(value, kinds)
    )


class Showing(Evidence):
    def __init__(self, rows):
        super().__init__(rows)
        self.ends = {number: self.end(number) for number in self.outers}
        self.stretches = {number: self.range(number) for number in self.outers}
        self.m = [self.found_m(q) for q in range(len(self.rows) + 1)]
        self.known_stays = {}
        self.open = self.found_open()
        self.ceilings = dict(self.open)
        self.main = [(q, k) for q, k in self.open if not any(q < r and j <= k for r, j in self.open)]

    def bounds(self, number):
        """The lists of the pairs (bound, row) of [14] for low and for high."""
        first, lows, highs = self.numbers.opened[number], [], []
        highs.append((first, first))
        for index, row in enumerate(self.rows):
            if row[0] in TOUCHING and self.numbers.top(row[1]) == number:
                version = self.pasts[index].slots[row[2:4]]
                if self.numbers.top(version["maker"]) != number:
                    lows.append((self.pasts[index].commit(version["maker"]) + 1, index))
                if row[0] == "refused":
                    highs.append((self.pasts[index].commit(version["ender"]), index))
            if row[0] == "fall" and index < first:
                lows.append((index + 1, index))
            if index in self.floors and index < self.ends[number]:
                lows.append((self.floors[index] + 1, index))
            if row[0] == "prepare" and row[1] == number:
                lows.append((row[2], index))
                highs.append((row[2], index))
        return lows, highs

    def range(self, number):
        lows, highs = self.bounds(number)
        return max([0] + [bound for bound, _ in lows]), min(bound for bound, _ in highs)

    def found_m(self, q):
        falls = [fall for fall in self.falls if fall < q]
        return max([self.floors[row] for row in self.cleanings if row <= q] + falls, default=-1)

    def word_row(self, q):
        """The last word row before q if no fall is behind it and it has a word."""
        told = [row for row in range(q) if self.rows[row][0] in ("word", "fall")]
        return told[-1] if told and self.rows[told[-1]] not in (("fall",), ("word", None)) else None

    def found_open(self):
        """The pairs (q, k) of the open spans by [15]."""
        found = []
        for q, k in self.spans():
            word = self.word_row(q)
            able = [number for number in self.outers if self.stretches[number][0] <= k and self.ends[number] > q]
            if not able and (word is None or self.rows[word][1] > k):
                found.append((q, k))
        return found

    # Bars.

    def bars(self):
        """The set of all bars."""
        found = set()
        for number in self.outers:
            lows, highs = self.bounds(number)
            found |= {("range", number, low_row, high_row)
                      for low, low_row in lows for high, high_row in highs if low > high}
        for q in self.cleanings:
            word = self.word_row(q)
            if self.rows[q][0] == "clean" and word is not None and self.rows[word][1] <= self.floors[q]:
                found.add(("word", word, q))
        for q, k in self.open:
            found |= {("span", q, row) for row in self.cleanings if row <= q and self.floors[row] >= k}
            found |= {("span", q, fall) for fall in self.falls if fall < q and fall >= k}
        return found

    def is_bar(self, value):
        """Whether any value is a bar."""
        return (kinds_fit(value, str, int, int, int) or kinds_fit(value, str, int, int)) and value in self.bars()

    def barred_by_views(self):
        """Whether no views and readers could have been there, by going through the views."""
        if not all(self.views.values()):
            return True
        for q in self.cleanings:
            if self.rows[q][0] == "clean" and self.word_at(q) is not None and self.word_at(q) <= self.floors[q]:
                return True
        return any(self.least_stay([(q, k)]) is None for q, k in self.open_spans())

    # Readers.

    def least_stay(self, group):
        """The shortest stay (view, end) that holds some spans, or None."""
        end, ceiling = max(q for q, _ in group) + 1, min(k for _, k in group)
        if (end, ceiling) not in self.known_stays:
            views = [view for view in range(ceiling + 1) if self.reader_fits(view, end)]
            self.known_stays[end, ceiling] = (views[-1], end) if views else None
        return self.known_stays[end, ceiling]

    def groupings(self, spans):
        """All ways to give each of the spans one reader, as lists of lists."""
        if not spans:
            yield []
            return
        for grouping in self.groupings(spans[1:]):
            for at, group in enumerate(grouping):
                yield grouping[:at] + [[spans[0]] + group] + grouping[at + 1:]
            yield [[spans[0]]] + grouping

    def sums_of_lengths(self):
        """A dict from each number of readers to the least sum of lengths with just so many of them."""
        found = {}
        for grouping in self.groupings(self.open):
            stays = [self.least_stay(group) for group in grouping]
            if None not in stays:
                total = sum(end - view for view, end in stays)
                found[len(stays)] = min(total, found.get(len(stays), total))
        return found

    def are_apart(self, q, r):
        return q in self.ceilings and r in self.ceilings and q < r and self.m[r] >= self.ceilings[q]

    def most_apart(self):
        rows = [q for q, _ in self.open]
        return max(size for size in range(len(rows) + 1) for chosen in combinations(rows, size)
                   if all(self.are_apart(q, r) for q, r in combinations(chosen, 2)))

    # Lacks.

    def lack(self, views, stays):
        """What `first_lack` returns."""
        for at, number in enumerate(self.outers):
            if type(views) is not tuple or len(views) <= at or not kinds_fit(views[at], int, int):
                return ("views", at if type(views) is tuple else 0)
            if views[at][0] != number or views[at][1] < 0:
                return ("views", at)
        if type(views) is not tuple or len(views) > len(self.outers):
            return ("views", len(self.outers) if type(views) is tuple else 0)
        if type(stays) is not tuple:
            return ("stays", 0)
        for at, stay in enumerate(stays):
            if not kinds_fit(stay, int, int) or not 0 <= stay[0] < stay[1] <= len(self.rows):
                return ("stays", at)
            if at > 0 and not stays[at - 1] < stay:
                return ("stays", at)
        return self.wrong(views, stays)

    def wrong(self, views, stays):
        for number, view in views:
            lows, highs = self.bounds(number)
            rows = [row for bound, row in lows if bound > view] + [row for bound, row in highs if bound < view]
            if rows:
                return ("view", number, min(rows))
        for at, (view, end) in enumerate(stays):
            for row in range(view, end):
                if row in self.falls or (row in self.floors and self.floors[row] >= view):
                    return ("stay", at, row)
        for q in self.cleanings:
            if self.rows[q][0] == "clean" and self.word_at(q) is not None and self.word_at(q) <= self.floors[q]:
                return ("word", q)
        holders = list(stays) + [(view, self.ends[number]) for number, view in views]
        for q, k in self.spans():
            if not self.is_held(q, k, holders):
                return ("span", q)
        return None

    # Tables.

    def run_length(self, h, j):
        """The least length of a stay for the main spans with the numbers from h to j - 1, or None."""
        last, ceiling = self.main[j - 1][0], self.main[h][1]
        return last + 1 - ceiling if self.m[last] < ceiling else None

    def table(self, count):
        n = len(self.main)
        lengths = {(h, j): self.run_length(h, j) for j in range(1, n + 1) for h in range(j)}
        lines = [(0,) + (None,) * n]
        for _ in range(count):
            line = [0]
            for j in range(1, n + 1):
                sums = [lines[-1][h] + lengths[h, j] for h in range(j)
                        if lines[-1][h] is not None and lengths[h, j] is not None]
                line.append(min([lines[-1][j]] * (lines[-1][j] is not None) + sums, default=None))
            lines.append(tuple(line))
        return tuple(lines)

    def holds(self, count, value):
        """Whether a value is a table that holds [20]."""
        n = len(self.main)
        if type(value) is not tuple or len(value) != count + 1:
            return False
        for line in value:
            if type(line) is not tuple or len(line) != n + 1:
                return False
            if any(entry is not None and (type(entry) is not int or entry < 0) for entry in line):
                return False
        if any(line[0] != 0 for line in value) or any(entry is not None for entry in value[0][1:]):
            return False
        for i in range(1, count + 1):
            for j in range(1, n + 1):
                sums = [value[i - 1][j]] + [
                    value[i - 1][h] + self.run_length(h, j) for h in range(j)
                    if value[i - 1][h] is not None and self.run_length(h, j) is not None
                ]
                sums = [number for number in sums if number is not None]
                if sums and (value[i][j] is None or value[i][j] > min(sums)):
                    return False
        return True
