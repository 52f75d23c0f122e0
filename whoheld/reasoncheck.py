"""Checks of reasons: by the rows that they name, the rows behind these, and the fates of the numbers."""

from whoheld.names import is_below, is_integer, is_place
from whoheld.rows import made, touched
from whoheld.surveys import Survey


def shows_floor(rows, row, bound, value):
    """Whether any value is a reason for a floor of at least `bound` of the clean or tidy row with this index."""
    survey = Survey(rows)
    survey.need_cleaning(row)
    return _is_reason(survey, rows, row, value) and value[0] != "left" and value[3] >= bound


def shows_ceiling(rows, row, bound, value):
    """Whether any value is a reason for a ceiling of at most `bound` of the clean row with this index."""
    survey = Survey(rows)
    survey.need_cleaning(row)
    return _is_reason(survey, rows, row, value) and value[0] == "left" and value[3] <= bound


def _is_reason(survey, rows, row, value):
    if not isinstance(value, tuple) or len(value) != 4:
        return False
    word, slot, origin, commit = value
    if not is_place(slot) or not is_below(origin, row) or not is_integer(commit):
        return False
    if not _fits(rows, row, word, slot, origin) or not _is_there(rows, row, slot, origin):
        return False
    return survey.commit_before(rows[origin][1], row) == commit


def _is_there(rows, row, slot, origin):
    # Whether the version that was in the slot behind the origin is still there ahead of the row.
    page = rows[row][1]
    between = rows[origin + 1:row]
    return not any([other[0] in ("clean", "tidy") and other[1] == page and slot in other[2] for other in between])


def _fits(rows, row, word, slot, origin):
    told = rows[row]
    if word == "removed":
        return slot in told[2] and _has_ended(rows, row, slot, origin)
    if told[0] != "clean":
        return False
    if word == "marked":
        return slot in told[3] and _has_made(rows, row, slot, origin)
    if word != "left" or slot in told[2]:
        return False
    if _has_ended(rows, row, slot, origin):
        return True
    return _has_made(rows, row, slot, origin) and not _is_marked(rows[origin + 1:row + 1], told[1], slot)


def _has_ended(rows, row, slot, origin):
    return rows[origin][0] in ("change", "strike") and touched(rows[origin]) == (rows[row][1], slot)


def _has_made(rows, row, slot, origin):
    return made(rows[origin]) == (rows[row][1], slot)


def _is_marked(rows, page, slot):
    return any([row[0] == "clean" and row[1] == page and slot in row[3] for row in rows])
