"""Bars: rows that no choice of views satisfies."""

from whoheld.errors import Barred
from whoheld.surveys import Survey


def bar(rows):
    """A bar of a log, or None if it is not barred."""
    return bar_in(Survey(rows))


def bar_in(survey):
    """A bar of the log of a survey, or None."""
    return _range_bar(survey) or _word_bar(survey) or _span_bar(survey)


def unbarred(rows):
    """The survey of a log; raises Barred if the log is barred."""
    survey = Survey(rows)
    found = bar_in(survey)
    if found is not None:
        raise Barred(found)
    return survey


def _range_bar(survey):
    for number in survey.all_outers():
        low, high = survey.stretch(number)
        if low > high:
            # The low is no 0 here, so a row shows it.
            return ("range", number, _least_row(survey.lows(number), low), _least_row(survey.highs(number), high))
    return None


def _word_bar(survey):
    for row in survey.clean_rows():
        if survey.breaks_word(row):
            return ("word", survey.word_row(row), row)
    return None


def _span_bar(survey):
    for row, ceiling in survey.open_pairs():
        if survey.height(row) >= ceiling:
            low_rows = [low_row for low_row, shown in survey.heights_shown(row) if shown >= ceiling]
            return ("span", row, low_rows[0])
    return None


def _least_row(bounds, wanted):
    return min([row for bound, row in bounds if bound == wanted])
