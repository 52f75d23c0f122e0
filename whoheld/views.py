"""What a view sees in a state."""

from whoheld.pages import MOST_SLOTS, entries
from whoheld.slots import ENDER, MAKER, VALUE, is_version
from whoheld.versions import is_before


def seen(state, view, key, *, number=None):
    """The spot of the version of a key that is seen, or None."""
    return _seen_of(state, view, state.entries_of(key), state.own_numbers(number))


def get(state, view, key, *, number=None):
    """The value of the version of a key that is seen, or None."""
    spot = seen(state, view, key, number=number)
    return None if spot is None else state[spot][VALUE]


def scan(state, view, low, high, *, number=None):
    """Yields the pairs of the keys from low to high and the values that are seen, ascending."""
    yield from seen_pairs(state, view, low, high, number=number)


def count(state, view, *, number=None):
    """How many keys have a version that is seen."""
    return len(seen_keys(state, view, number=number))


def page_slots(state, view, page):
    """The ascending tuple of the slots of a page that the view sees; of a plain page all with versions."""
    if state.is_plain(page):
        return tuple([slot for slot in range(MOST_SLOTS) if is_version(state[page, slot])])
    return tuple([slot for slot in range(MOST_SLOTS) if _is_committed_below(state, view, page, slot)])


def seen_keys(state, view, *, number=None):
    """The ascending list of the keys that have a version that is seen."""
    own = state.own_numbers(number)
    found = entries(state.pages)
    return [key for key in found if _seen_of(state, view, found[key], own) is not None]


def seen_pairs(state, view, low, high, *, number=None):
    """The list of the pairs that `scan` yields."""
    wanted = [key for key in seen_keys(state, view, number=number) if low <= key <= high]
    return [(key, get(state, view, key, number=number)) for key in wanted]


def _seen_of(state, view, spots, own):
    # The spots are all entries of one key.
    versions = [spot for spot in spots if is_version(state[spot])]
    mine = [spot for spot in versions if state[spot][MAKER] in own]
    if len(mine) == 0:
        # Own versions hide those of others.
        mine = [(page, slot) for page, slot in versions if _is_committed_below(state, view, page, slot)]
    left = [spot for spot in mine if state[spot][ENDER] not in own]
    return left[0] if len(left) > 0 else None


def _is_committed_below(state, view, page, slot):
    if is_before(state.ended_at(page, slot), view):
        return False
    return is_before(state.made_at(page, slot), view)
