"""Slot images: what is in a slot of a page."""

from whoheld.names import is_ascending, is_key, is_number, is_value

# The parts of the image of a version, and of a stub as far as it has them.
KEY = 1
VALUE = 2
MAKER = 3
ENDER = 4
OLD = 5
LOCKERS = 6


def is_slot(value):
    """Whether any value has the form of a slot image."""
    if value is None:
        return True
    if not isinstance(value, tuple) or len(value) < 2 or not is_key(value[KEY]):
        return False
    if value[0] == "stub":
        return len(value) == 2
    return value[0] == "version" and len(value) == 7 and _parts_fit(value)


def _parts_fit(value):
    if not is_value(value[VALUE]) or not is_number(value[MAKER]):
        return False
    if value[ENDER] is not None and not is_number(value[ENDER]):
        return False
    return isinstance(value[OLD], bool) and _are_lockers(value[LOCKERS])


def _are_lockers(value):
    if not isinstance(value, tuple) or not all([is_number(number) for number in value]):
        return False
    return is_ascending(value)


def is_version(image):
    """Whether the slot of this image has a version."""
    return image is not None and image[0] == "version"


def new_version(key, value, maker):
    """The image of a version that was just made."""
    return ("version", key, value, maker, None, False, ())


def stub_of(image):
    """The stub that a version leaves."""
    return ("stub", image[KEY])


def with_part(image, at, part):
    """The image with another part at this place."""
    return image[:at] + (part,) + image[at + 1:]
