"""Which rows the pages allow, for rows that the rules of numbers allow already."""

from whoheld.pages import due_slot
from whoheld.slots import ENDER, KEY, LOCKERS, MAKER, is_version
from whoheld.versions import cleaned_slots, doubters, ended_commit, has_own_version, is_dead_version
from whoheld.versions import made_commit, stands


def row_fits(fates, spots, pages, row):
    """Whether the pages allow a row other than a sweep row; `spots` is a dict from each key to its entries."""
    word = row[0]
    if word == "put":
        return due_slot(pages) == row[2:4] and _can_put(fates, versions_at(pages, spots.get(row[4], ())), row[1])
    if word == "change":
        return due_slot(pages) == row[4:6] and _touches_well(fates, spots, pages, row)
    if word in ("strike", "lock", "refused"):
        return _touches_well(fates, spots, pages, row)
    if word == "clean":
        return _cleans_well(fates, pages[row[1]], row[2], row[3])
    if word == "tidy":
        return all([is_dead_version(fates, pages[row[1]][slot]) for slot in row[2]])
    return True


def versions_at(pages, spots):
    """The list of the images of the versions among these spots."""
    found = [pages[page][slot] for page, slot in spots]
    return [image for image in found if is_version(image)]


def _can_put(fates, images, number):
    if len(images) == 0:
        return True
    own = fates.own_numbers(number)
    if any([stands(fates, image, own) for image in images]):
        return False
    return not any([doubters(fates, image, number) for image in images])


def _touches_well(fates, spots, pages, row):
    word, number, page, slot = row[:4]
    image = pages[page][slot]
    if not is_version(image):
        return False
    own = fates.own_numbers(number)
    if image[MAKER] not in own and has_own_version(versions_at(pages, spots[image[KEY]]), own):
        # Own versions hide those of others.
        return False
    if word == "refused":
        return _can_be_refused(fates, image)
    if word == "lock":
        return stands(fates, image, own) and _can_lock(fates, image, own)
    return stands(fates, image, own) and not fates.rivals(number, image[LOCKERS])


def _can_lock(fates, image, own):
    return made_commit(fates, image) is not None and not any([number in own for number in image[LOCKERS]])


def _can_be_refused(fates, image):
    # The transaction itself runs, so an ender that is committed is of another family.
    made, ended = made_commit(fates, image), ended_commit(fates, image)
    return made is not None and ended is not None and made < ended


def _cleans_well(fates, images, removed, marked):
    # If these slots are right for any horizon, they are for the least one that allows them all.
    commits = [fates.commit_row(images[slot][ENDER]) for slot in removed if is_version(images[slot])]
    commits = commits + [made_commit(fates, images[slot]) for slot in marked if is_version(images[slot])]
    least = max([commit for commit in commits if commit is not None], default=-1) + 1
    return cleaned_slots(fates, images, least) == (removed, marked)
