"""Reasons: rows that show the floor or the ceiling of a cleaning."""

from whoheld.rows import made, touched
from whoheld.surveys import Survey

COMMIT = 3


def floor_reason(rows, row):
    """A reason whose commit is the floor of the clean or tidy row with this index, or None."""
    survey = Survey(rows)
    survey.need_cleaning(row)
    floor = survey.floor(row)
    return _reason_with(_removed_ones(survey, rows, row) + _marked_ones(survey, rows, row), floor)


def ceiling_reason(rows, row):
    """A reason whose commit is the ceiling of the clean row with this index, or None."""
    survey = Survey(rows)
    survey.need_cleaning(row)
    ceiling = survey.ceiling(row)
    return None if ceiling is None else _reason_with(_left_ones(survey, rows, row), ceiling)


def _reason_with(reasons, commit):
    fitting = [reason for reason in reasons if reason[COMMIT] == commit]
    return fitting[0] if len(fitting) > 0 else None


def _removed_ones(survey, rows, row):
    page, removed = rows[row][1:3]
    _, ended_rows = _origins(rows[:row])
    origins = [(slot, ended_rows[page, slot]) for slot in removed if (page, slot) in ended_rows]
    return _reasons_of(survey, rows, row, "removed", origins)


def _marked_ones(survey, rows, row):
    if rows[row][0] != "clean":
        return []
    page, _, marked = rows[row][1:]
    made_rows, _ = _origins(rows[:row])
    return _reasons_of(survey, rows, row, "marked", [(slot, made_rows[page, slot]) for slot in marked])


def _left_ones(survey, rows, row):
    page = rows[row][1]
    # Behind the row: of the versions that it leaves, those that are old have no row that made them here.
    made_rows, ended_rows = _origins(rows[:row + 1])
    origins = [(slot, origin) for (at, slot), origin in made_rows.items() if at == page and origin is not None]
    origins = origins + [(slot, origin) for (at, slot), origin in ended_rows.items() if at == page]
    return _reasons_of(survey, rows, row, "left", origins)


def _reasons_of(survey, rows, row, word, origins):
    told = [(slot, origin, survey.commit_before(rows[origin][1], row)) for slot, origin in origins]
    return [(word, slot, origin, commit) for slot, origin, commit in told if commit is not None]


def _origins(rows):
    """Two dicts by the spots of versions: the row that made it, None if it is old, and the last row that ended it."""
    made_rows, ended_rows = {}, {}
    for index, row in enumerate(rows):
        if row[0] in ("change", "strike"):
            ended_rows[touched(row)] = index
        if made(row) is not None:
            made_rows[made(row)] = index
        if row[0] in ("clean", "tidy"):
            for slot in row[2]:
                made_rows.pop((row[1], slot), None)
                ended_rows.pop((row[1], slot), None)
        if row[0] == "clean":
            for slot in row[3]:
                made_rows[row[1], slot] = None
    return made_rows, ended_rows
