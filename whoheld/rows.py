"""The forms of the rows of a log, and what a row names."""

from whoheld.names import is_ascending, is_key, is_number, is_place, is_value, is_view

# For each word of a row the kinds of the parts behind it, as `part_fits` tells them apart.
FORMS = {
    "open": ("number", "outer"),
    "put": ("number", "page", "slot", "key", "value"),
    "change": ("number", "page", "slot", "page", "slot", "value"),
    "strike": ("number", "page", "slot"),
    "lock": ("number", "page", "slot"),
    "refused": ("number", "page", "slot"),
    "commit": ("number",),
    "abort": ("number",),
    "prepare": ("number", "view"),
    "clean": ("page", "removed", "marked"),
    "tidy": ("page", "tidied"),
    "sweep": (),
    "word": ("told",),
    "fall": (),
}


def is_row(value):
    """Whether any value has the form of a row."""
    if not isinstance(value, tuple) or len(value) == 0 or not isinstance(value[0], str):
        return False
    if value[0] not in FORMS:
        return False
    kinds = FORMS[value[0]]
    if len(value) != len(kinds) + 1:
        return False
    for at, kind in enumerate(kinds):
        # In their order, since a part is compared with the one before it.
        if not part_fits(kind, value[at + 1], value[at]):
            return False
    return True


def part_fits(kind, part, before):
    """Whether any value can be a part of this kind behind the part before it."""
    if kind == "number":
        return is_number(part)
    if kind == "outer":
        return part is None or (is_number(part) and part < before)
    if kind in ("page", "slot"):
        return is_place(part)
    if kind == "key":
        return is_key(part)
    if kind == "value":
        return is_value(part)
    if kind == "view":
        return is_view(part)
    if kind == "told":
        return part is None or is_view(part)
    return _slots_fit(kind, part, before)


def _slots_fit(kind, part, before):
    if not isinstance(part, tuple) or not all([is_place(slot) for slot in part]):
        return False
    if kind == "tidied" and len(part) == 0:
        return False
    if kind == "marked" and any([slot in before for slot in part]):
        return False
    return is_ascending(part)


def numbers_in(row):
    """The tuple of the numbers that the row names, in its order."""
    if "number" not in FORMS[row[0]]:
        return ()
    if row[0] == "open" and row[2] is not None:
        return row[1:3]
    return row[1:2]


def touched(row):
    """The spot of the version that a change, strike, lock or refused row names, otherwise None."""
    if row[0] in ("change", "strike", "lock", "refused"):
        return row[2:4]
    return None


def made(row):
    """The spot of the new version of a put or change row, otherwise None."""
    if row[0] == "put":
        return row[2:4]
    if row[0] == "change":
        return row[4:6]
    return None


def pages_in(row):
    """The tuple of the pages that the row names, in its order."""
    return tuple([part for kind, part in zip(FORMS[row[0]], row[1:]) if kind == "page"])
