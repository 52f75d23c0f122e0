"""What a view sees in a state."""

from whoheld.pages import MOST_SLOTS
from whoheld.slots import VALUE, is_version
from whoheld.versions import is_before


def seen(state, view, key, *, number=None):
    """The spot of the version of a key that is seen, or None."""
    pair = state.seen(key, view, state.own_numbers(number))
    return None if pair is None else pair[0]


def get(state, view, key, *, number=None):
    """The value of the version of a key that is seen, or None."""
    pair = state.seen(key, view, state.own_numbers(number))
    return None if pair is None else pair[1][VALUE]


def scan(state, view, low, high, *, number=None):
    """Yields the pairs of the keys from low to high and the values that are seen, ascending."""
    yield from seen_pairs(state, view, low, high, number=number)


def count(state, view, *, number=None):
    """How many keys have a version that is seen."""
    return len(seen_keys(state, view, number=number))


def page_slots(state, view, page):
    """The ascending tuple of the slots of a page that the view sees; of a plain page all with versions."""
    if state.is_plain(page):
        return tuple([slot for slot in range(MOST_SLOTS) if is_version(state[page, slot])])
    return tuple([slot for slot in range(MOST_SLOTS) if _is_committed_below(state, view, page, slot)])


def seen_keys(state, view, *, number=None):
    """The ascending list of the keys that have a version that is seen."""
    own = state.own_numbers(number)
    return [key for key in state.keys_used() if state.seen(key, view, own) is not None]


def seen_pairs(state, view, low, high, *, number=None):
    """The list of the pairs that `scan` yields."""
    own = state.own_numbers(number)
    wanted = [key for key in state.keys_used() if low <= key <= high]
    found = [(key, state.seen(key, view, own)) for key in wanted]
    return [(key, pair[1][VALUE]) for key, pair in found if pair is not None]


def _is_committed_below(state, view, page, slot):
    if is_before(state.ended_at(page, slot), view):
        return False
    return is_before(state.made_at(page, slot), view)
