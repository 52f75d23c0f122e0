"""What the fates of numbers make of a version: who may touch it, and when it is dead."""

from whoheld.slots import ENDER, KEY, LOCKERS, MAKER, OLD, is_version


def is_aborted(fates, number):
    """Whether this number is aborted; None is not."""
    return number is not None and fates.fate(number)[0] == "aborted"


def is_open(fates, number):
    """Whether this number is open; None is not."""
    return number is not None and fates.fate(number)[0] == "open"


def own_numbers(fates, number):
    """The tuple of the numbers of its family that are not aborted; () for any value that is no number here."""
    if number not in fates:
        return ()
    return tuple([other for other in fates.family(number) if not is_aborted(fates, other)])


def rivals(fates, number, others):
    """The list of the outer transactions of those of `others` that are open and of another family."""
    # Any value that is no number here is a family by itself.
    mine = fates.top_of(number) if number in fates else None
    tops = [fates.top_of(other) for other in others if is_open(fates, other)]
    return [top for top in tops if top != mine]


def made_commit(fates, image):
    """The commit of the maker of a version, or None."""
    return fates.commit_of(image[MAKER])


def ended_commit(fates, image):
    """The commit of the ender of a version, or None."""
    return None if image[ENDER] is None else fates.commit_of(image[ENDER])


def stands(fates, image, own):
    """Whether a version stands for the transaction with these own numbers."""
    if image[ENDER] is not None and not is_aborted(fates, image[ENDER]):
        return False
    return image[MAKER] in own or made_commit(fates, image) is not None


def doubters(fates, image, number):
    """The list of the outer transactions that put a version in doubt for a number."""
    if is_aborted(fates, image[MAKER]):
        return []
    return rivals(fates, number, (image[MAKER], image[ENDER]))


def has_own_version(images, own):
    """Whether an own number made one of the versions."""
    return any([image[MAKER] in own for image in images])


def versions_of(pages, key):
    """The list of the images of the versions of a key."""
    return [image for images in pages for image in images if is_version(image) and image[KEY] == key]


def is_dead_version(fates, image):
    """Whether a slot has a version that is dead below some view."""
    if not is_version(image):
        return False
    return is_aborted(fates, image[MAKER]) or ended_commit(fates, image) is not None


def cleaned_slots(fates, images, horizon):
    """The pair (removed, marked) of a cleaning of a page for this horizon."""
    removed = tuple([slot for slot, image in enumerate(images) if _is_dead_below(fates, image, horizon)])
    marked = tuple([
        slot
        for slot, image in enumerate(images)
        if slot not in removed and _is_to_mark(fates, image, horizon)
    ])
    return (removed, marked)


def is_plain_page(fates, images):
    """Whether a page is plain."""
    held = [image for image in images if image is not None]
    return len(held) > 0 and all([_is_plain_version(fates, image) for image in held])


def is_before(commit, view):
    """Whether there is a commit and it is less than this view."""
    return commit is not None and commit < view


def _is_dead_below(fates, image, horizon):
    if not is_version(image):
        return False
    return is_aborted(fates, image[MAKER]) or is_before(ended_commit(fates, image), horizon)


def _is_to_mark(fates, image, horizon):
    return is_version(image) and not image[OLD] and is_before(made_commit(fates, image), horizon)


def _is_plain_version(fates, image):
    if not is_version(image) or not image[OLD] or image[ENDER] is not None:
        return False
    return not any([is_open(fates, number) for number in image[LOCKERS]])
