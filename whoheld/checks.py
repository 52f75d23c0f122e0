"""Which rows the pages allow, for rows that the rules of numbers allow already."""

from whoheld.pages import due_slot
from whoheld.slots import ENDER, KEY, LOCKERS, MAKER, is_stub, is_version
from whoheld.versions import cleaned_slots, doubters, ended_commit, has_own_version, is_dead_version
from whoheld.versions import made_commit, own_numbers, rivals, stands, versions_of


def row_fits(fates, pages, row):
    """Whether the pages allow a row."""
    if row[0] == "put":
        return _can_put(fates, pages, row[1], row[4]) and due_slot(pages) == row[2:4]
    if row[0] == "change":
        return _touches_well(fates, pages, row) and due_slot(pages) == row[4:6]
    if row[0] in ("strike", "lock", "refused"):
        return _touches_well(fates, pages, row)
    if row[0] == "clean":
        return _cleans_well(fates, pages[row[1]], row[2], row[3])
    if row[0] == "tidy":
        return all([is_dead_version(fates, pages[row[1]][slot]) for slot in row[2]])
    if row[0] == "sweep":
        return any([is_stub(image) for images in pages for image in images])
    return True


def _can_put(fates, pages, number, key):
    own = own_numbers(fates, number)
    images = versions_of(pages, key)
    if any([stands(fates, image, own) for image in images]):
        return False
    return not any([doubters(fates, image, number) for image in images])


def _touches_well(fates, pages, row):
    number, page, slot = row[1:4]
    image = pages[page][slot]
    if not is_version(image):
        return False
    own = own_numbers(fates, number)
    if image[MAKER] not in own and has_own_version(versions_of(pages, image[KEY]), own):
        # Own versions hide those of others.
        return False
    if row[0] == "refused":
        return _can_be_refused(fates, image)
    if row[0] == "lock":
        return stands(fates, image, own) and _can_lock(fates, image, own)
    return stands(fates, image, own) and not rivals(fates, number, image[LOCKERS])


def _can_lock(fates, image, own):
    return made_commit(fates, image) is not None and not any([number in own for number in image[LOCKERS]])


def _can_be_refused(fates, image):
    # The transaction itself runs, so an ender that is committed is of another family.
    made, ended = made_commit(fates, image), ended_commit(fates, image)
    return made is not None and ended is not None and made < ended


def _cleans_well(fates, images, removed, marked):
    # If these slots are right for any horizon, they are for the least one that allows them all.
    commits = [fates.commit_of(images[slot][ENDER]) for slot in removed if _has_ender(images[slot])]
    commits = commits + [made_commit(fates, images[slot]) for slot in marked if is_version(images[slot])]
    least = max([commit for commit in commits if commit is not None], default=-1) + 1
    return cleaned_slots(fates, images, least) == (removed, marked)


def _has_ender(image):
    return is_version(image) and image[ENDER] is not None
