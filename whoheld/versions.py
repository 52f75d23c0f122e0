"""What the fates of numbers make of a version: who may touch it, who sees it, and when it is dead."""

from whoheld.slots import ENDER, LOCKERS, MAKER, OLD, is_version


def made_commit(fates, image):
    """The commit of the maker of a version, or None."""
    return fates.commit_row(image[MAKER])


def ended_commit(fates, image):
    """The commit of the ender of a version, or None."""
    return fates.commit_row(image[ENDER])


def stands(fates, image, own):
    """Whether a version stands for the transaction with these own numbers."""
    if image[ENDER] is not None and not fates.is_aborted(image[ENDER]):
        return False
    return image[MAKER] in own or made_commit(fates, image) is not None


def doubters(fates, image, number):
    """The list of the outer transactions that put a version in doubt for a number."""
    if fates.is_aborted(image[MAKER]):
        return []
    return fates.rivals(number, (image[MAKER], image[ENDER]))


def has_own_version(images, own):
    """Whether an own number made one of the versions."""
    return any([image[MAKER] in own for image in images])


def seen_of(fates, pairs, view, own):
    """Of the pairs of a spot and an image of all versions of one key, the one that is seen, or None."""
    mine = [pair for pair in pairs if pair[1][MAKER] in own]
    if len(mine) == 0:
        # Own versions hide those of others.
        mine = [pair for pair in pairs if is_seen_below(fates, pair[1], view)]
    left = [pair for pair in mine if pair[1][ENDER] not in own]
    return left[0] if len(left) > 0 else None


def is_seen_below(fates, image, view):
    """Whether a view sees a version without a transaction."""
    if not is_before(made_commit(fates, image), view):
        return False
    return not is_before(ended_commit(fates, image), view)


def is_dead_version(fates, image):
    """Whether a slot has a version that is dead below some view."""
    if not is_version(image):
        return False
    return fates.is_aborted(image[MAKER]) or ended_commit(fates, image) is not None


def cleaned_slots(fates, images, horizon):
    """The pair (removed, marked) of a cleaning of a page for this horizon."""
    removed, marked = [], []
    for slot, image in enumerate(images):
        if is_version(image):
            ended = fates.commit_row(image[ENDER])
            if (ended is not None and ended < horizon) or fates.is_aborted(image[MAKER]):
                removed.append(slot)
            elif not image[OLD] and is_before(fates.commit_row(image[MAKER]), horizon):
                marked.append(slot)
    return (tuple(removed), tuple(marked))


def is_plain_page(fates, images):
    """Whether a page is plain."""
    held = [image for image in images if image is not None]
    return len(held) > 0 and all([_is_plain_version(fates, image) for image in held])


def is_before(commit, view):
    """Whether there is a commit and it is less than this view."""
    return commit is not None and commit < view


def _is_plain_version(fates, image):
    if not is_version(image) or not image[OLD] or image[ENDER] is not None:
        return False
    return not any([fates.is_open(number) for number in image[LOCKERS]])
