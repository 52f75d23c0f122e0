"""What integers, keys, values, numbers, views and spots are. Any value may be asked about."""

LETTERS = "abcdefghijklmnopqrstuvwxyz"
DIGITS = "0123456789"
CHARACTERS = "abcdefghijklmnopqrstuvwxyz0123456789"
MOST_CHARACTERS = 8
MOST_PLACES = 8  # as many pages as slots of a page
MOST_NUMBER = 999999


def is_integer(value):
    """Whether the value is an integer and not a bool."""
    return isinstance(value, int) and not isinstance(value, bool)


def is_below(value, limit):
    """Whether the value is an integer from 0 to limit - 1."""
    return isinstance(value, int) and 0 <= value < limit and not isinstance(value, bool)


def is_key(value):
    """Whether the value is a string of 1 to 8 letters a to z."""
    return isinstance(value, str) and 1 <= len(value) <= MOST_CHARACTERS and value.strip(LETTERS) == ""


def is_value(value):
    """Whether the value is a string of 1 to 8 characters a to z and 0 to 9."""
    return isinstance(value, str) and 1 <= len(value) <= MOST_CHARACTERS and value.strip(CHARACTERS) == ""


def is_number(value):
    """Whether the value can be the number of a transaction."""
    return isinstance(value, int) and 1 <= value <= MOST_NUMBER and not isinstance(value, bool)


def is_view(value):
    """Whether the value can be a view."""
    return isinstance(value, int) and 0 <= value <= MOST_NUMBER and not isinstance(value, bool)


def is_place(value):
    """Whether the value is an integer from 0 to 7, as pages and slots are."""
    return isinstance(value, int) and 0 <= value < MOST_PLACES and not isinstance(value, bool)


def is_spot(value):
    """Whether the value is a tuple (page, slot)."""
    return isinstance(value, tuple) and len(value) == 2 and is_place(value[0]) and is_place(value[1])


def is_ascending(integers):
    """Whether each integer is greater than the one before it."""
    return len(integers) < 2 or all([low < high for low, high in zip(integers, integers[1:])])
