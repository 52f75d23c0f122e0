"""Locking: what a deed of a transaction would come to."""

from whoheld.pages import due_slot
from whoheld.slots import ENDER, LOCKERS, MAKER, is_version
from whoheld.views import seen


def blockers(state, number, page, slot, *, shared=False):
    """The ascending list of the outer transactions that block a change of the version in a slot."""
    image = state[page, slot]
    if not is_version(image):
        return []
    lockers = () if shared else image[LOCKERS]
    return state.rivals(number, (image[ENDER],) + lockers)


def verdict(state, view, number, word, key, *, pages=8):
    """What a deed would come to for a transaction with this view."""
    due = due_slot(state.pages, pages)
    if word == "put":
        return _verdict_of_put(state, number, key, due)
    spot = seen(state, view, key, number=number)
    if spot is None:
        return ("missing",)
    page, slot = spot
    if word == "lock" and _is_held(state, number, state[spot]):
        return ("held",)
    found = blockers(state, number, page, slot, shared=word == "lock")
    if len(found) > 0:
        return ("blocked", found[0])
    if state.ended_at(page, slot) is not None:
        return ("refused", page, slot)
    if word == "change" and due is None:
        return ("full",)
    return ("done", page, slot)


def _verdict_of_put(state, number, key, due):
    if state.standing(key, number) is not None:
        return ("taken",)
    found = state.doubts(key, number)
    if len(found) > 0:
        return ("blocked", found[0])
    if due is None:
        return ("full",)
    return ("done",) + due


def _is_held(state, number, image):
    own = state.own_numbers(number)
    return image[MAKER] in own or any([locker in own for locker in image[LOCKERS]])
