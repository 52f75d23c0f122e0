"""Locking: what a deed of a transaction would come to."""

from whoheld.slots import ENDER, LOCKERS, MAKER, is_version


def blockers(state, number, page, slot, *, shared=False):
    """The ascending list of the outer transactions that block a change of the version in a slot."""
    image = state[page, slot]
    return _blockers_of(state, number, image, shared) if is_version(image) else []


def verdict(state, view, number, word, key, *, pages=8):
    """What a deed would come to for a transaction with this view."""
    if word == "put":
        return _verdict_of_put(state, number, key, pages)
    own = state.own_numbers(number)
    pair = state.seen(key, view, own)
    if pair is None:
        return ("missing",)
    spot, image = pair
    if word == "lock" and _is_held(image, own):
        return ("held",)
    found = _blockers_of(state, number, image, word == "lock")
    if len(found) > 0:
        return ("blocked", found[0])
    if state.ended_at(spot[0], spot[1]) is not None:
        return ("refused",) + spot
    if word == "change" and state.due(pages) is None:
        return ("full",)
    return ("done",) + spot


def _verdict_of_put(state, number, key, pages):
    if state.standing(key, number) is not None:
        return ("taken",)
    found = state.doubts(key, number)
    if len(found) > 0:
        return ("blocked", found[0])
    due = state.due(pages)
    return ("full",) if due is None else ("done",) + due


def _blockers_of(state, number, image, shared):
    lockers = () if shared else image[LOCKERS]
    return state.rivals(number, (image[ENDER],) + lockers)


def _is_held(image, own):
    return image[MAKER] in own or any([locker in own for locker in image[LOCKERS]])
