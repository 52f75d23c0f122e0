"""Ranges: which views the transactions of a log can have had."""

from whoheld.surveys import Survey


def range_of(rows, number):
    """The range (low, high) of a transaction."""
    survey = Survey(rows)
    survey.need_outer(number)
    return survey.stretch(number)


def ranges(rows):
    """Yields the triples (number, low, high) of all transactions, ascending."""
    survey = Survey(rows)
    for number in survey.all_outers():
        low, high = survey.stretch(number)
        yield (number, low, high)


def end_of(rows, number):
    """The end of a transaction."""
    survey = Survey(rows)
    survey.need_outer(number)
    return survey.end_row(number)
