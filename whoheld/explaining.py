"""Explaining: whether views and stays explain a log, and what they lack if they do not."""

from whoheld.names import is_integer
from whoheld.surveys import Survey


def first_lack(rows, views, stays):
    """What any values lack to be views and stays that explain the log, or None."""
    return lack_in(Survey(rows), views, stays)


def explains(rows, views, stays):
    """Whether any values are views and stays that explain the log."""
    return first_lack(rows, views, stays) is None


def lack_in(survey, views, stays):
    """What any values lack to be views and stays that explain the log of a survey, or None."""
    # Each of these relies on what those before it did not miss.
    return (
        _lack_of_views(survey, views)
        or _lack_of_stays(survey, stays)
        or _wrong_view(survey, views)
        or _wrong_stay(survey, stays)
        or _wrong_word(survey)
        or _unheld_span(survey, views, stays)
    )


def _lack_of_views(survey, views):
    if not isinstance(views, tuple):
        return ("views", 0)
    numbers = survey.all_outers()
    for at, number in enumerate(numbers):
        if at >= len(views) or not _is_view_of(views[at], number):
            return ("views", at)
    return ("views", len(numbers)) if len(views) > len(numbers) else None


def _lack_of_stays(survey, stays):
    if not isinstance(stays, tuple):
        return ("stays", 0)
    for at, stay in enumerate(stays):
        if not _is_stay(stay, len(survey)) or (at > 0 and stay <= stays[at - 1]):
            return ("stays", at)
    return None


def _wrong_view(survey, views):
    for number, view in views:
        low, high = survey.stretch(number)
        if not low <= view <= high:
            rows = [row for bound, row in survey.lows(number) if bound > view]
            rows = rows + [row for bound, row in survey.highs(number) if bound < view]
            return ("view", number, min(rows))
    return None


def _wrong_stay(survey, stays):
    for at, (view, end) in enumerate(stays):
        row = survey.stop_of(view, end)
        if row is not None:
            return ("stay", at, row)
    return None


def _wrong_word(survey):
    for row in survey.clean_rows():
        if survey.breaks_word(row):
            return ("word", row)
    return None


def _unheld_span(survey, views, stays):
    holders = [(view, survey.end_row(number)) for number, view in views] + list(stays)
    for row, ceiling in survey.span_pairs():
        if survey.holding_word(row) is None and not any([view <= ceiling and end > row for view, end in holders]):
            return ("span", row)
    return None


def _is_view_of(value, number):
    return _is_pair(value) and value[0] == number and value[1] >= 0


def _is_stay(value, length):
    return _is_pair(value) and 0 <= value[0] < value[1] <= length


def _is_pair(value):
    return isinstance(value, tuple) and len(value) == 2 and is_integer(value[0]) and is_integer(value[1])
