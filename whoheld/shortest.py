"""Shortest: how short the stays of so many readers can be in all, and a table that shows it."""

from whoheld.bars import unbarred
from whoheld.errors import TooFew
from whoheld.fewest import groups_in
from whoheld.surveys import Survey


def main_spans(rows):
    """Yields the pairs (row, ceiling) of all main spans, ascending."""
    yield from main_pairs(Survey(rows))


def least_length(rows, count):
    """The least sum of the lengths of at most `count` stays that explain the log."""
    survey = _counted(rows, count)
    return _filled(survey, main_pairs(survey), count)[-1][-1]


def shortest(rows, count):
    """The least length, stays of this length in all, and the table that shows it."""
    survey = _counted(rows, count)
    pairs = main_pairs(survey)
    table = _filled(survey, pairs, count)
    return (table[-1][-1], _stays_told(survey, pairs, table), table)


def main_pairs(survey):
    """The list of the pairs (row, ceiling) of the main spans of a survey, ascending."""
    found = []
    for row, ceiling in survey.open_pairs()[::-1]:
        if len(found) == 0 or ceiling < found[-1][1]:
            found.append((row, ceiling))
    return found[::-1]


def runs_up_to(survey, pairs, stop):
    """The list of the pairs (start, length) of the runs from start to stop - 1 that one stay can hold."""
    found = []
    last = pairs[stop - 1][0]
    for start in range(stop - 1, -1, -1):
        ceiling = pairs[start][1]
        if survey.height(last) >= ceiling:
            # The ceilings before it are less.
            return found
        found.append((start, last + 1 - ceiling))
    return found


def _counted(rows, count):
    survey = unbarred(rows)
    least = len(groups_in(survey))
    if count < least:
        raise TooFew(least)
    return survey


def _filled(survey, pairs, count):
    runs = [runs_up_to(survey, pairs, stop) for stop in range(1, len(pairs) + 1)]
    table = [(0,) + (None,) * len(pairs)]
    for _ in range(count):
        before = table[-1]
        line = [_least_told(before, stop, runs[stop - 1]) for stop in range(1, len(pairs) + 1)]
        table.append((0,) + tuple(line))
    return tuple(table)


def _least_told(before, stop, runs):
    # The line before this one is for one stay less.
    sums = [before[start] + length for start, length in runs if before[start] is not None]
    return min(sums + ([] if before[stop] is None else [before[stop]]), default=None)


def _stays_told(survey, pairs, table):
    found = []
    at, stop = len(table) - 1, len(pairs)
    while stop > 0:
        before = table[at - 1]
        if before[stop] != table[at][stop]:
            fitting = [
                start
                for start, length in runs_up_to(survey, pairs, stop)
                if before[start] is not None and before[start] + length == table[at][stop]
            ]
            found.append((pairs[fitting[0]][1], pairs[stop - 1][0] + 1))
            stop = fitting[0]
        at = at - 1
    return tuple(found[::-1])
