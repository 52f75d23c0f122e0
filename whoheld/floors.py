"""Floors and ceilings: what the cleanings of a log tell about the horizons of the store."""

from whoheld.surveys import Survey


def floor_of(rows, row):
    """The floor of the clean or tidy row with this index."""
    survey = Survey(rows)
    survey.need_cleaning(row)
    return survey.floor(row)


def ceiling_of(rows, row):
    """The ceiling of the clean row with this index, or None; None for a tidy row."""
    survey = Survey(rows)
    survey.need_cleaning(row)
    return survey.ceiling(row)


def spans(rows):
    """Yields the pairs (row, ceiling) of all spans, ascending."""
    yield from Survey(rows).span_pairs()


def heights(rows):
    """The tuple of the numbers m(q) for each index q, the length of the log included."""
    return Survey(rows).all_heights()
