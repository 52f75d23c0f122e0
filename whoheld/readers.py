"""Readers: they see what was committed below their view, and write no row."""

from whoheld.errors import Cancelled, Ended, InvalidKey, NoKey, NoPage
from whoheld.names import is_key, is_place
from whoheld.views import get, page_slots, seen, seen_keys, seen_pairs


class Reader:
    """A reader of a house."""

    def __init__(self, house, view):
        self._house = house
        self._view = view
        self._ending = None  # how it ended, None while it is open

    @property
    def view(self):
        """The number of the rows that were written when it was opened."""
        return self._view

    @property
    def state(self):
        """What became of it: open, closed, cancelled or fallen."""
        return "open" if self._ending is None else self._ending

    def get(self, key):
        """The value of a key that it sees, or None."""
        self._need_open()
        if not is_key(key):
            raise InvalidKey(key)
        return get(self._house.state, self._view, key)

    def scan(self, low, high):
        """Yields the pairs of the keys from low to high and the values that it sees, ascending."""
        self._need_open()
        for key in (low, high):
            if not is_key(key):
                raise InvalidKey(key)
        yield from seen_pairs(self._house.state, self._view, low, high)

    def slots_on(self, page):
        """The ascending tuple of the slots of a page that it sees."""
        self._need_open()
        if not is_place(page):
            raise NoPage(page)
        return page_slots(self._house.state, self._view, page)

    def __contains__(self, x):
        self._need_open()
        return is_key(x) and seen(self._house.state, self._view, x) is not None

    def __getitem__(self, at):
        self._need_open()
        if not is_key(at):
            raise InvalidKey(at)
        if seen(self._house.state, self._view, at) is None:
            raise NoKey(at)
        return get(self._house.state, self._view, at)

    def __iter__(self):
        raise TypeError("a reader is not iterated over")

    def __len__(self):
        return len(self._keys_seen())

    def close(self):
        """Closes it, and tells whether it was open."""
        return self.finish("closed")

    def finish(self, ending):
        """Ends it in this way if it is open, and tells whether it was."""
        if self._ending is not None:
            return False
        self._ending = ending
        return True

    def __enter__(self):
        return self

    def __exit__(self, kind, value, trace):
        if self._ending is None:
            self._ending = "closed"

    def _need_open(self):
        if self._ending == "cancelled":
            raise Cancelled()
        if self._ending is not None:
            raise Ended()

    def _keys_seen(self):
        self._need_open()
        return seen_keys(self._house.state, self._view)
