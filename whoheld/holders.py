"""Holders: who can have held the spans of a log."""

from whoheld.errors import NotSpan
from whoheld.horizons import word_in_force
from whoheld.names import is_integer
from whoheld.surveys import Survey


def word_at(rows, row):
    """The word in force at the row with this index, up to the length of the log, or None."""
    return word_in_force(Survey(rows).rows_before(row))


def who(rows, row):
    """The word, the numbers and the views of a reader that hold, surely hold or can hold a span."""
    survey = Survey(rows)
    if not is_integer(row) or survey.ceiling(row) is None:
        raise NotSpan(row)
    ceiling = survey.ceiling(row)
    able = able_numbers(survey, row, ceiling)
    sure = [number for number in able if survey.stretch(number)[1] <= ceiling]
    least = survey.height(row) + 1
    return (
        holding_word(survey, row, ceiling),
        tuple(sure),
        tuple([number for number in able if number not in sure]),
        (least, ceiling) if least <= ceiling else None,
    )


def open_spans(rows):
    """Yields the pairs (row, ceiling) of all open spans, ascending."""
    yield from open_pairs(Survey(rows))


def open_pairs(survey):
    """The list of the pairs (row, ceiling) of the open spans of a survey, ascending."""
    return [(row, ceiling) for row, ceiling in survey.span_pairs() if _is_open(survey, row, ceiling)]


def holding_word(survey, row, ceiling):
    """The word in force at a span if it holds it, otherwise None."""
    word = word_in_force(survey.rows_before(row))
    return word if word is not None and word <= ceiling else None


def able_numbers(survey, row, ceiling):
    """The ascending list of the numbers of the transactions that can hold a span."""
    lasting = [number for number in survey.all_outers() if survey.end_row(number) > row]
    return [number for number in lasting if survey.stretch(number)[0] <= ceiling]


def _is_open(survey, row, ceiling):
    return holding_word(survey, row, ceiling) is None and len(able_numbers(survey, row, ceiling)) == 0
