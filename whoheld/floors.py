"""Floors and ceilings: what the cleanings of a log tell about the horizons of the store."""

from whoheld.errors import NotCleaning
from whoheld.names import is_integer
from whoheld.surveys import Survey


def floor_of(rows, row):
    """The floor of the clean or tidy row with this index."""
    survey = Survey(rows)
    _need_cleaning(survey, row)
    return survey.floor(row)


def ceiling_of(rows, row):
    """The ceiling of the clean row with this index, or None; None for a tidy row."""
    survey = Survey(rows)
    _need_cleaning(survey, row)
    return survey.ceiling(row)


def spans(rows):
    """Yields the pairs (row, ceiling) of all spans, ascending."""
    yield from Survey(rows).span_pairs()


def heights(rows):
    """The tuple of the numbers m(q) for each index q, the length of the log included."""
    return Survey(rows).all_heights()


def _need_cleaning(survey, row):
    if not is_integer(row) or not survey.is_cleaning(row):
        raise NotCleaning(row)
