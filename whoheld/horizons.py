"""Horizons: what is not seen by a view that is active."""


def word_in_force(rows):
    """The word in force behind a tuple of rows, or None."""
    word = None
    for row in rows:
        if row[0] == "word":
            word = row[1]
        elif row[0] == "fall":
            word = None
    return word


def horizon_of(views, word, now):
    """The least of the views and of the word, if that is not None; `now` if there is none of them."""
    bounds = list(views) if word is None else list(views) + [word]
    return min(bounds, default=now)
