"""Fewest: how few unseen readers a log needs, and cleanings that show that it needs as many."""

from whoheld.bars import bar_in, unbarred
from whoheld.surveys import Survey


def fewest_readers(rows):
    """The fewest readers of a log that is not barred."""
    return len(groups_in(unbarred(rows)))


def apart(rows):
    """An ascending tuple of the rows of so many open spans, any two of them apart."""
    return apart_rows(groups_in(unbarred(rows)))


def stays(rows):
    """An ascending tuple of so many stays that explain the log with the lows as views."""
    return stays_of(groups_in(unbarred(rows)))


def paper(rows):
    """The paper of a log: its lows, stays and spans that are apart, or a bar."""
    survey = Survey(rows)
    found = bar_in(survey)
    return paper_in(survey) if found is None else found


def groups_in(survey):
    """The list of the groups of open spans that a reader each holds: least ceiling, its row, last row."""
    groups = []
    for row, ceiling in survey.open_pairs():
        if len(groups) == 0 or survey.height(row) >= groups[-1][0]:
            # It is apart from the span with the least ceiling of the group before it.
            groups.append((ceiling, row, row))
        else:
            least, least_row, _ = groups[-1]
            groups[-1] = min((least, least_row), (ceiling, row)) + (row,)
    return groups


def apart_rows(groups):
    """The rows of the spans with the least ceiling of each group."""
    return tuple([row for _, row, _ in groups])


def stays_of(groups):
    """The stays of the readers that hold a group each."""
    return tuple([(ceiling, last + 1) for ceiling, _, last in groups])


def paper_in(survey):
    """The paper of the log of a survey that is not barred."""
    groups = groups_in(survey)
    return ("readers", survey.lowest_views(), stays_of(groups), apart_rows(groups))
