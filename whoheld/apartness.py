"""Apartness: whether no reader holds two spans, and whether a paper shows how many readers there were."""

from whoheld.explaining import lack_in
from whoheld.names import is_integer
from whoheld.surveys import Survey


def are_apart(rows, row, other):
    """Whether any values are the rows of two open spans that are apart, the lesser one first."""
    survey = Survey(rows)
    return _are_apart_in(survey, dict(survey.open_pairs()), row, other)


def is_apart(rows, value):
    """Whether any value is an ascending tuple of rows of open spans, any two of them apart."""
    return is_apart_in(Survey(rows), value)


def shows_readers(rows, value):
    """Whether any value is a paper of the log that tells readers."""
    return shows_readers_in(Survey(rows), value)


def is_apart_in(survey, value):
    """What `is_apart` tells for the log of a survey."""
    if not isinstance(value, tuple):
        return False
    ceilings = dict(survey.open_pairs())
    if not all([is_integer(row) and row in ceilings for row in value]):
        return False
    # The heights never fall, so what is apart from the next one is apart from all behind it.
    return all([_are_apart_in(survey, ceilings, row, other) for row, other in zip(value, value[1:])])


def shows_readers_in(survey, value):
    """What `shows_readers` tells for the log of a survey."""
    if not isinstance(value, tuple) or len(value) != 4 or value[0] != "readers":
        return False
    _, views, stays, rows = value
    if lack_in(survey, views, stays) is not None or not is_apart_in(survey, rows):
        return False
    return len(stays) == len(rows)


def _are_apart_in(survey, ceilings, row, other):
    if not is_integer(row) or not is_integer(other) or row >= other:
        return False
    return row in ceilings and other in ceilings and survey.height(other) >= ceilings[row]
