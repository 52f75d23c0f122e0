"""What a row does to the pages."""

from whoheld.slots import ENDER, KEY, LOCKERS, OLD, is_version, new_version, stub_of, with_part


def enter_pages(fates, pages, row):
    """Puts into a list of pages what a valid row other than a sweep row makes of them, by the fates ahead of it."""
    word = row[0]
    if word == "put":
        set_image(pages, row[2:4], new_version(row[4], row[5], row[1]))
    elif word == "change":
        image = pages[row[2]][row[3]]
        set_image(pages, row[2:4], with_part(image, ENDER, row[1]))
        set_image(pages, row[4:6], new_version(image[KEY], row[6], row[1]))
    elif word == "strike":
        set_image(pages, row[2:4], with_part(pages[row[2]][row[3]], ENDER, row[1]))
    elif word == "lock":
        image = pages[row[2]][row[3]]
        set_image(pages, row[2:4], with_part(image, LOCKERS, tuple(sorted(image[LOCKERS] + (row[1],)))))
    elif word == "clean":
        pages[row[1]] = _cleaned(fates, pages[row[1]], row[2], row[3])
    elif word == "tidy":
        pages[row[1]] = _tidied(pages[row[1]], row[2])


def set_image(pages, spot, image):
    """Puts another image at a spot of a list of pages."""
    page, slot = spot
    images = pages[page]
    pages[page] = images[:slot] + (image,) + images[slot + 1:]


def _tidied(images, removed):
    left = list(images)
    for slot in removed:
        left[slot] = stub_of(images[slot])
    return tuple(left)


def _cleaned(fates, images, removed, marked):
    left = list(images)
    for slot in removed:
        left[slot] = stub_of(images[slot])
    for slot in marked:
        left[slot] = with_part(images[slot], OLD, True)
    for slot, image in enumerate(left[:]):
        if is_version(image) and fates.is_aborted(image[ENDER]):
            left[slot] = with_part(image, ENDER, None)
    return tuple(left)
