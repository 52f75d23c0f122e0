"""Rows as texts."""

from whoheld.errors import InvalidText
from whoheld.names import DIGITS
from whoheld.rows import FORMS, part_fits

NOTHING = "-"
MOST_DIGITS = 6


def write_row(row):
    """The text of a row."""
    return " ".join([_write_part(part) for part in row])


def write_rows(rows):
    """The text of some rows, a line each."""
    return "\n".join([write_row(row) for row in rows])


def read_row(text):
    """The row that the text writes; raises InvalidText for any other value."""
    if not isinstance(text, str):
        raise InvalidText(0, 0)
    return _read_line(text, 0)


def read_rows(text):
    """The tuple of the rows that the text writes; raises InvalidText for any other value."""
    if not isinstance(text, str):
        raise InvalidText(0, 0)
    if text == "":
        return ()
    return tuple([_read_line(part, line) for line, part in enumerate(text.split("\n"))])


def read_integer(word):
    """The integer that a word writes, or the word itself if it writes none."""
    if not 1 <= len(word) <= MOST_DIGITS or any([character not in DIGITS for character in word]):
        return word
    if word[0] == "0" and word != "0":
        return word
    return int(word)


def _write_part(part):
    if part is None or part == ():
        return NOTHING
    if isinstance(part, tuple):
        return ",".join([str(slot) for slot in part])
    return str(part)


def _read_line(text, line):
    words = text.split(" ")
    if words[0] not in FORMS:
        raise InvalidText(line, 0)
    kinds = FORMS[words[0]]
    parts = [words[0]]
    for kind, word in zip(kinds, words[1:]):
        part = _read_part(kind, word)
        if not part_fits(kind, part, parts[-1]):
            raise InvalidText(line, len(parts))
        parts.append(part)
    if len(parts) != len(words) or len(parts) != len(kinds) + 1:
        # Either the first word behind the row, or the number of the words.
        raise InvalidText(line, len(parts))
    return tuple(parts)


def _read_part(kind, word):
    # A word that writes nothing of this kind is returned itself: a string never fits where one is read.
    if kind in ("key", "value"):
        return word
    if kind in ("removed", "marked", "tidied"):
        return _read_slots(word)
    if kind in ("outer", "told") and word == NOTHING:
        return None
    return read_integer(word)


def _read_slots(word):
    if word == NOTHING:
        return ()
    return tuple([read_integer(piece) for piece in word.split(",")])
