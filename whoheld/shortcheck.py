"""Checks of tables and of shortest stays."""

from whoheld.explaining import lack_in
from whoheld.names import is_integer
from whoheld.shortest import main_pairs, runs_up_to
from whoheld.surveys import Survey


def holds(rows, count, value):
    """Whether any value is a table for this count and the main spans of the log that holds."""
    return _holds_in(Survey(rows), count, value)


def shows_shortest(rows, count, value):
    """Whether any value is a triple of a length, stays of this length in all, and a table that shows it."""
    survey = Survey(rows)
    if not isinstance(value, tuple) or len(value) != 3:
        return False
    length, stays, table = value
    if not is_integer(length) or lack_in(survey, survey.lowest_views(), stays) is not None:
        # Of a barred log the lows explain nothing, whatever the stays are.
        return False
    if len(stays) > count or sum([end - view for view, end in stays]) != length:
        return False
    return _holds_in(survey, count, table) and table[-1][-1] == length


def _holds_in(survey, count, value):
    pairs = main_pairs(survey)
    if not isinstance(value, tuple) or len(value) != count + 1:
        return False
    if not all([_is_line(line, len(pairs) + 1) for line in value]):
        return False
    if value[0] != (0,) + (None,) * len(pairs) or not all([line[0] == 0 for line in value]):
        return False
    for stop in range(1, len(pairs) + 1):
        runs = runs_up_to(survey, pairs, stop)
        if not all([_is_low(line, before, stop, runs) for before, line in zip(value, value[1:])]):
            return False
    return True


def _is_line(value, length):
    if not isinstance(value, tuple) or len(value) != length:
        return False
    return all([entry is None or (is_integer(entry) and entry >= 0) for entry in value])


def _is_low(line, before, stop, runs):
    sums = [before[start] + length for start, length in runs if before[start] is not None]
    sums = sums + ([] if before[stop] is None else [before[stop]])
    return len(sums) == 0 or (line[stop] is not None and line[stop] <= min(sums))
