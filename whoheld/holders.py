"""Holders: who can have held the spans of a log."""

from whoheld.errors import NotSpan
from whoheld.surveys import Survey


def word_at(rows, row):
    """The word in force at the row with this index, up to the length of the log, or None."""
    return Survey(rows).word_before(row)


def who(rows, row):
    """The word, the numbers and the views of a reader that hold, surely hold or can hold a span."""
    return holders_in(Survey(rows), row)


def open_spans(rows):
    """Yields the pairs (row, ceiling) of all open spans, ascending."""
    yield from Survey(rows).open_pairs()


def holders_in(survey, row):
    """What `who` returns for the log of a survey."""
    ceiling = survey.ceiling(row)
    if ceiling is None:
        raise NotSpan(row)
    able = survey.able_numbers(row)
    sure = [number for number in able if survey.stretch(number)[1] <= ceiling]
    least = survey.height(row) + 1
    return (
        survey.holding_word(row),
        tuple(sure),
        tuple([number for number in able if number not in sure]),
        (least, ceiling) if least <= ceiling else None,
    )
