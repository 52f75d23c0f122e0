"""Transactions: they see by one view, and each deed of theirs writes a row."""

from whoheld.errors import AbsentError, Blocked, Busy, Ended, Full, HoldError, InvalidKey, InvalidValue, NoKey
from whoheld.errors import NotOuter, SizeError, Taken, TooDeep, TurnError
from whoheld.locking import verdict
from whoheld.names import is_key, is_value
from whoheld.views import count, get, seen_pairs

MOST_INNER = 3  # so many inner ones are open within one another


class Transaction:
    """A transaction of a store."""

    def __init__(self, house, view, outer=None):
        self.number = None
        self.outer = outer
        self._house = house
        self._view = view
        self._ending = None  # how it ended, None while it is open
        self._within = None  # the open one directly within it

    @property
    def view(self):
        """The number of the rows that were written when it began."""
        return self._view

    @property
    def state(self):
        """What became of it: open, prepared, committed, aborted or fallen."""
        if self._ending is None:
            return "open"
        if self._ending != "prepared":
            return self._ending
        # No fall takes a prepare row away, so the log always tells what became of it.
        word, _ = self._house.state.fate_of(self.number)
        return "prepared" if word == "open" else word

    def put(self, key, value):
        """Makes a version of a key and returns its spot."""
        self._need_turn()
        self._need_key(key)
        self._need_value(value)
        told = self._told("put", key)
        self._need_way(told, key)
        self._write("put", told[1], told[2], key, value)
        return told[1:]

    def change(self, key, value):
        """Ends the version that it sees, makes a new one, and returns True; False if it was refused."""
        self._need_turn()
        self._need_key(key)
        self._need_value(value)
        told = self._told("change", key)
        self._need_way(told, key)
        if told[0] == "refused":
            return self._be_refused(told)
        page, slot = self._house.state.due(self._house.page_count)
        self._write("change", told[1], told[2], page, slot, value)
        return True

    def strike(self, key):
        """Ends the version that it sees and returns True; False if it was refused."""
        return self._touch("strike", key)

    def lock(self, key):
        """Locks the version that it sees and returns True; False if it was refused."""
        return self._touch("lock", key)

    def sign(self):
        """Writes the open rows that are missing and returns the number."""
        self._need_turn()
        return self._signed()

    def get(self, key):
        """The value of the version that it sees, or None."""
        self._need_open()
        self._need_key(key)
        return get(self._house.state, self._view, key, number=self._family_number())

    def scan(self, low, high):
        """Yields the pairs of the keys from low to high and the values that it sees, ascending."""
        self._need_open()
        self._need_key(low)
        self._need_key(high)
        yield from seen_pairs(self._house.state, self._view, low, high, number=self._family_number())

    def count(self):
        """How many keys it sees."""
        self._need_open()
        return count(self._house.state, self._view, number=self._family_number())

    def inner(self):
        """A new transaction within it, which is open."""
        self._need_turn()
        if len(self._line()) > MOST_INNER:
            raise TooDeep(MOST_INNER)
        self._within = Inner(self._house, self._view, self)
        return self._within

    def commit(self):
        """Commits it."""
        self._need_turn()
        self._leave("commit", "committed")

    def abort(self):
        """Aborts those that are open within it, the innermost first, and then itself."""
        self._need_open()
        for member in self._open_ones():
            member._leave("abort", "aborted")

    def prepare(self):
        """Prepares it to commit and returns the number."""
        self._need_open()
        if self.outer is not None:
            raise NotOuter()
        self._need_turn()
        number = self._signed()
        self._house._enter(("prepare", number, self._view))
        self._ending = "prepared"
        return number

    def attempt(self, work):
        """Calls `work` with a new transaction within it and returns what it returns."""
        inner = self.inner()
        try:
            result = work(inner)
        except (HoldError, TurnError, AbsentError, SizeError):
            if inner.state == "open":
                inner.abort()
            raise
        if inner.state == "open":
            for member in inner._open_ones():
                member.commit()
        return result

    def finish(self, ending):
        """Ends it and those within it in this way without a row, if it is open."""
        if self._ending is None:
            for member in self._open_ones():
                member._end(ending)

    def _need_open(self):
        if self._ending is not None:
            raise Ended()

    def _need_turn(self):
        self._need_open()
        if self._within is not None:
            raise Busy(self._open_ones()[0].number)

    def _need_key(self, key):
        if not is_key(key):
            raise InvalidKey(key)

    def _need_value(self, value):
        if not is_value(value):
            raise InvalidValue(value)

    def _need_way(self, told, key):
        if told[0] == "missing":
            raise NoKey(key)
        if told[0] == "taken":
            raise Taken(key)
        if told[0] == "blocked":
            raise Blocked(told[1])
        if told[0] == "full":
            raise Full()

    def _touch(self, word, key):
        self._need_turn()
        self._need_key(key)
        told = self._told(word, key)
        self._need_way(told, key)
        if told[0] == "refused":
            return self._be_refused(told)
        if told[0] == "done":
            self._write(word, told[1], told[2])
        return True

    def _be_refused(self, told):
        self._write("refused", told[1], told[2])
        return False

    def _told(self, word, key):
        house = self._house
        return verdict(house.state, self._view, self._family_number(), word, key, pages=house.page_count)

    def _write(self, word, *parts):
        number = self._signed()
        self._house._enter((word, number) + parts)

    def _signed(self):
        if self.number is not None:
            return self.number
        around = None
        for member in self._line():
            if member.number is None:
                number = self._house.state.next_number()
                self._house._enter(("open", number, around))
                member.number = number
            around = member.number
        return self.number

    def _leave(self, word, ending):
        # One without a number is in no row.
        if self.number is not None:
            self._house._enter((word, self.number))
        self._end(ending)

    def _end(self, ending):
        outer = self.outer
        self._ending = ending
        if outer is not None:
            outer._within = None

    def _line(self):
        # It and those around it, from the outside.
        line = [self]
        while line[0].outer is not None:
            line = [line[0].outer] + line
        return line

    def _open_ones(self):
        # It and those that are open within it, from the inside.
        found = [self]
        while found[0]._within is not None:
            found = [found[0]._within] + found
        return found

    def _family_number(self):
        # Those around one that has a number have theirs, so the family has one if this has.
        top = self
        while top.outer is not None:
            top = top.outer
        return top.number


class Inner(Transaction):
    """A transaction within another one; its view is that of the one around it."""

    def __init__(self, house, view, outer):
        super().__init__(house, view, outer)
