"""What a row does to the pages."""

from whoheld.pages import with_image
from whoheld.slots import ENDER, KEY, LOCKERS, OLD, is_stub, is_version, new_version, stub_of, with_part
from whoheld.versions import is_aborted


def pages_behind(fates, pages, row):
    """The pages behind a valid row, by the fates and the pages ahead of it."""
    if row[0] == "put":
        return with_image(pages, row[2:4], new_version(row[4], row[5], row[1]))
    if row[0] == "change":
        key = pages[row[2]][row[3]][KEY]
        return with_image(_with_ender(pages, row), row[4:6], new_version(key, row[6], row[1]))
    if row[0] == "strike":
        return _with_ender(pages, row)
    if row[0] == "lock":
        return _with_locker(pages, row)
    if row[0] == "clean":
        images = [_cleaned(fates, image, slot, row) for slot, image in enumerate(pages[row[1]])]
        return pages[:row[1]] + (tuple(images),) + pages[row[1] + 1:]
    if row[0] == "tidy":
        images = [stub_of(image) if slot in row[2] else image for slot, image in enumerate(pages[row[1]])]
        return pages[:row[1]] + (tuple(images),) + pages[row[1] + 1:]
    if row[0] == "sweep":
        return tuple([tuple([None if is_stub(image) else image for image in images]) for images in pages])
    return pages


def _with_ender(pages, row):
    image = pages[row[2]][row[3]]
    return with_image(pages, row[2:4], with_part(image, ENDER, row[1]))


def _with_locker(pages, row):
    image = pages[row[2]][row[3]]
    lockers = tuple(sorted(image[LOCKERS] + (row[1],)))
    return with_image(pages, row[2:4], with_part(image, LOCKERS, lockers))


def _cleaned(fates, image, slot, row):
    if not is_version(image):
        return image
    if slot in row[2]:
        return stub_of(image)
    if slot in row[3]:
        image = with_part(image, OLD, True)
    if is_aborted(fates, image[ENDER]):
        image = with_part(image, ENDER, None)
    return image
