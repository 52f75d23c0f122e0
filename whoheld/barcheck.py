"""Checks of bars and papers."""

from whoheld.apartness import shows_readers_in
from whoheld.names import is_integer
from whoheld.surveys import Survey


def shows_bar(rows, value):
    """Whether any value is a bar of the log."""
    return _shows_bar_in(Survey(rows), value)


def shows_paper(rows, value):
    """Whether any value is a paper of the log."""
    survey = Survey(rows)
    return shows_readers_in(survey, value) or _shows_bar_in(survey, value)


def _shows_bar_in(survey, value):
    if not isinstance(value, tuple) or not all([is_integer(part) for part in value[1:]]):
        return False
    if len(value) == 4 and value[0] == "range":
        return _shows_range(survey, value)
    if len(value) == 3 and value[0] == "word":
        return _shows_word(survey, value)
    return len(value) == 3 and value[0] == "span" and _shows_span(survey, value)


def _shows_range(survey, value):
    _, number, low_row, high_row = value
    if not survey.is_outer(number):
        return False
    lows = [bound for bound, row in survey.lows(number) if row == low_row]
    highs = [bound for bound, row in survey.highs(number) if row == high_row]
    return any([low > high for low in lows for high in highs])


def _shows_word(survey, value):
    _, word_row, row = value
    return row in survey.clean_rows() and survey.word_row(row) == word_row and survey.breaks_word(row)


def _shows_span(survey, value):
    _, row, low_row = value
    ceilings = dict(survey.open_pairs())
    if row not in ceilings:
        return False
    return any([other == low_row and shown >= ceilings[row] for other, shown in survey.heights_shown(row)])
