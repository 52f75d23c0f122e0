"""The forms of the rows of a log, and what a row names."""

from whoheld.names import is_ascending, is_key, is_number, is_place, is_value, is_view

# For each word of a row the kinds of the parts behind it, as `part_fits` tells them apart.
FORMS = {
    "open": ("number", "outer"),
    "put": ("number", "page", "slot", "key", "value"),
    "change": ("number", "page", "slot", "page", "slot", "value"),
    "strike": ("number", "page", "slot"),
    "lock": ("number", "page", "slot"),
    "refused": ("number", "page", "slot"),
    "commit": ("number",),
    "abort": ("number",),
    "prepare": ("number", "view"),
    "clean": ("page", "removed", "marked"),
    "tidy": ("page", "tidied"),
    "sweep": (),
    "word": ("told",),
    "fall": (),
}


def _is_open(row):
    return is_number(row[1]) and (row[2] is None or (is_number(row[2]) and row[2] < row[1]))


def _is_put(row):
    return _is_touching(row[:4]) and is_key(row[4]) and is_value(row[5])


def _is_change(row):
    return _is_touching(row[:4]) and is_place(row[4]) and is_place(row[5]) and is_value(row[6])


def _is_touching(row):
    return is_number(row[1]) and is_place(row[2]) and is_place(row[3])


def _is_ending(row):
    return is_number(row[1])


def _is_prepare(row):
    return is_number(row[1]) and is_view(row[2])


def _is_clean(row):
    removed, marked = row[2:]
    if not is_place(row[1]) or not _are_slots(removed) or not _are_slots(marked):
        return False
    return len(removed) == 0 or not any([slot in removed for slot in marked])


def _is_tidy(row):
    return is_place(row[1]) and _are_slots(row[2]) and len(row[2]) > 0


def _is_word(row):
    return row[1] is None or is_view(row[1])


def _is_bare(row):
    return len(row) == 1


def _are_slots(value):
    if not isinstance(value, tuple):
        return False
    for slot in value:
        if not is_place(slot):
            return False
    return is_ascending(value)


# The same once more, for whole rows that have as many parts: most of what is asked is whether values are rows.
CHECKS = {
    "open": _is_open,
    "put": _is_put,
    "change": _is_change,
    "strike": _is_touching,
    "lock": _is_touching,
    "refused": _is_touching,
    "commit": _is_ending,
    "abort": _is_ending,
    "prepare": _is_prepare,
    "clean": _is_clean,
    "tidy": _is_tidy,
    "sweep": _is_bare,
    "word": _is_word,
    "fall": _is_bare,
}


def is_row(value):
    """Whether any value has the form of a row."""
    if not isinstance(value, tuple) or len(value) == 0 or not isinstance(value[0], str):
        return False
    word = value[0]
    if word not in FORMS or len(value) != len(FORMS[word]) + 1:
        return False
    check = CHECKS[word]
    return check(value)


def part_fits(kind, part, before):
    """Whether any value can be a part of this kind behind the part before it."""
    if kind == "number":
        return is_number(part)
    if kind in ("page", "slot"):
        return is_place(part)
    if kind == "key":
        return is_key(part)
    if kind == "value":
        return is_value(part)
    if kind == "outer":
        return part is None or (is_number(part) and part < before)
    if kind == "view":
        return is_view(part)
    if kind == "told":
        return part is None or is_view(part)
    if not _are_slots(part) or (kind == "tidied" and part == ()):
        return False
    return kind != "marked" or not any([slot in before for slot in part])


def numbers_in(row):
    """The tuple of the numbers that the row names, in its order."""
    if "number" not in FORMS[row[0]]:
        return ()
    if row[0] == "open" and row[2] is not None:
        return row[1:3]
    return row[1:2]


def touched(row):
    """The spot of the version that a change, strike, lock or refused row names, otherwise None."""
    if row[0] in ("change", "strike", "lock", "refused"):
        return row[2:4]
    return None


def made(row):
    """The spot of the new version of a put or change row, otherwise None."""
    if row[0] == "put":
        return row[2:4]
    if row[0] == "change":
        return row[4:6]
    return None


def pages_in(row):
    """The tuple of the pages that the row names, in its order."""
    return tuple([part for kind, part in zip(FORMS[row[0]], row[1:]) if kind == "page"])
