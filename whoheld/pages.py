"""Page images: the images of the slots of pages."""

from whoheld.slots import KEY, is_slot

MOST_PAGES = 8
MOST_SLOTS = 8


def is_page(value):
    """Whether any value has the form of a page image."""
    if not isinstance(value, tuple) or len(value) != MOST_SLOTS:
        return False
    return all([is_slot(image) for image in value])


def empty_pages():
    """Eight pages with free slots."""
    return ((None,) * MOST_SLOTS,) * MOST_PAGES


def due_slot(pages, count=8):
    """The spot that a new version takes if only the first `count` pages are used, or None."""
    for page, images in enumerate(pages[:count]):
        if None in images:
            return (page, images.index(None))
    return None


def entries(pages):
    """A dict from each key, ascending, to the ascending tuple of its entries."""
    found = {}
    for page, images in enumerate(pages):
        for slot, image in enumerate(images):
            if image is not None:
                found[image[KEY]] = found.get(image[KEY], ()) + ((page, slot),)
    return {key: found[key] for key in sorted(found)}
