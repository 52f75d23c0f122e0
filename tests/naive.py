"""The definitions of cleanings, evidence and playing [11] to [18] once more, by going through all views.

`Evidence(rows)` tells what the rows of a valid log show; `first_unplayed` tells which row a store would not write.
"""

from oracle import Numbers, Past

TOUCHING = ("change", "strike", "lock", "refused")


def after(past, *rows):
    """The past behind some more valid rows."""
    for row in rows:
        later = Past(())
        later.slots = {spot: copied(held) for spot, held in past.slots.items()}
        later.numbers = past.numbers
        later.step(row)
        later.rows = past.rows + (row,)
        later.numbers = Numbers(later.rows)
        past = later
    return past


def pasts_of(rows):
    """The past behind each beginning of a valid log."""
    found = [Past(())]
    for row in rows:
        found.append(after(found[-1], row))
    return found


def copied(held):
    """What is in a slot, once more."""
    if held is None or "maker" not in held:
        return held
    return dict(held, lockers=list(held["lockers"]))


class Evidence:
    """What a valid log shows."""

    def __init__(self, rows):
        self.rows = tuple(rows)
        self.pasts = pasts_of(self.rows)
        self.numbers = self.pasts[-1].numbers
        self.cleanings = [q for q, row in enumerate(self.rows) if row[0] in ("clean", "tidy")]
        self.falls = [f for f, row in enumerate(self.rows) if row[0] == "fall"]
        self.horizons = {q: self.horizons_of(q) for q in self.cleanings}
        self.floors = {q: min(self.horizons[q]) - 1 for q in self.cleanings}
        self.outers = [number for number in self.numbers.opened if self.numbers.outer[number] is None]
        self.views = {number: self.views_of(number) for number in self.outers}

    def horizons_of(self, q):
        """Every horizon for which a store could write this clean or tidy row."""
        row, past = self.rows[q], self.pasts[q]
        return [horizon for horizon in range(len(self.rows) + 2) if would_clean(past, row, horizon)]

    def ceiling(self, q):
        greatest = max(self.horizons[q])
        return None if greatest == len(self.rows) + 1 or self.rows[q][0] == "tidy" else greatest

    def spans(self):
        return [(q, self.ceiling(q)) for q in self.cleanings if self.ceiling(q) is not None]

    def end(self, number):
        row = self.numbers.fate(number)[1]
        return len(self.rows) if row is None else row

    def word_at(self, q):
        return self.pasts[q].word()

    def reader_fits(self, view, end):
        """Whether a reader can have had this view up to the row `end`, which is not counted."""
        if any(view <= fall < end for fall in self.falls):
            return False
        return all(self.floors[q] < view for q in self.cleanings if view <= q < end)

    def views_of(self, number):
        return [view for view in range(self.numbers.opened[number] + 1) if self.view_fits(number, view)]

    def view_fits(self, number, view):
        first = self.numbers.opened[number]
        if view > first or any(view <= fall < first for fall in self.falls):
            return False
        if number in self.numbers.prepares and self.numbers.prepares[number][1] != view:
            return False
        if any(self.floors[q] >= view for q in self.cleanings if view <= q < self.end(number)):
            return False
        for index, row in enumerate(self.rows):
            if row[0] in TOUCHING and self.numbers.top(row[1]) == number:
                if not self.pasts[index].sees(view, row[2:4], row[1]):
                    return False
        return True

    def who(self, q):
        """What `who` returns for a span, if the range of no transaction is empty."""
        ceiling, word = self.ceiling(q), self.word_at(q)
        lasting = [number for number in self.outers if self.end(number) > q]
        able = [number for number in lasting if any(view <= ceiling for view in self.views[number])]
        sure = [number for number in able if all(view <= ceiling for view in self.views[number])]
        readers = [view for view in range(ceiling + 1) if self.reader_fits(view, q + 1)]
        if readers:
            assert readers == list(range(readers[0], ceiling + 1))
        return (
            word if word is not None and word <= ceiling else None,
            tuple(sure),
            tuple(number for number in able if number not in sure),
            (readers[0], ceiling) if readers else None,
        )

    def open_spans(self):
        return [(q, ceiling) for q, ceiling in self.spans() if self.who(q)[:3] == (None, (), ())]

    def explained_by(self, views, stays):
        """Whether views, a dict of all transactions, and stays explain the log [18]."""
        if not all(self.view_fits(number, view) for number, view in views.items()):
            return False
        if not all(0 <= view < end <= len(self.rows) and self.reader_fits(view, end) for view, end in stays):
            return False
        for q in self.cleanings:
            word = self.word_at(q)
            if self.rows[q][0] == "clean" and word is not None and word <= self.floors[q]:
                return False
        holders = list(stays) + [(view, self.end(number)) for number, view in views.items()]
        return all(self.is_held(q, ceiling, holders) for q, ceiling in self.spans())

    def is_held(self, q, ceiling, holders):
        word = self.word_at(q)
        if word is not None and word <= ceiling:
            return True
        return any(view <= ceiling and end > q for view, end in holders)

    def cut_stays(self, stays):
        """The stays as a store has them: each ends with the first fall in it."""
        found = []
        for view, end in stays:
            end = min([fall for fall in self.falls if view <= fall < end] + [end])
            found += [(view, end)] if view < end else []
        return found

    def full_views(self, views):
        """A dict of the views of all transactions: their open rows, where no view is given."""
        return {number: dict(views).get(number, self.numbers.opened[number]) for number in self.outers}

    def first_unplayed(self, views, stays):
        """The first row that a store does not write with these views and stays, or None."""
        views, stays = self.full_views(views), self.cut_stays(stays)
        for index, row in enumerate(self.rows):
            active = [view for view, end in stays if view <= index < end]
            active += [view for number, view in views.items() if self.is_active(number, view, index)]
            if not self.is_written(index, row, active, views):
                return index
        return None

    def is_active(self, number, view, index):
        falls = [fall for fall in self.falls if view <= fall < self.numbers.opened[number]]
        return view <= index < min(falls + [self.end(number)])

    def is_written(self, index, row, active, views):
        past = self.pasts[index]
        if row[0] == "open" and row[2] is None:
            return not any(views[row[1]] <= fall < index for fall in self.falls)
        if row[0] in TOUCHING:
            return past.sees(views[self.numbers.top(row[1])], row[2:4], row[1])
        if row[0] == "prepare":
            return views[row[1]] == row[2]
        if row[0] == "clean" and past.word() is not None:
            active = active + [past.word()]
        return row[0] not in ("clean", "tidy") or would_clean(past, row, min(active, default=index))


def would_clean(past, row, horizon):
    """Whether a store with this horizon can write this clean or tidy row."""
    if row[0] == "clean":
        return past.cleaned(row[1], horizon) == row[2:4]
    return all(past.is_dead_below(past.versions()[row[1], slot], horizon) for slot in row[2])
