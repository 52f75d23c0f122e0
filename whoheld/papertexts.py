"""Papers as texts."""

from whoheld.errors import InvalidText
from whoheld.rows import part_fits
from whoheld.rowtexts import read_integer

# For each word of a line the kinds of the parts behind it.
LINES = {
    "readers": (),
    "view": ("number", "view"),
    "stay": ("view", "view"),
    "apart": ("view",),
    "range": ("number", "view", "view"),
    "word": ("view", "view"),
    "span": ("view", "view"),
}
BARS = ("range", "word", "span")
# The lines behind the line `readers`, in their order.
ENTRIES = ("view", "stay", "apart")


def write_paper(value):
    """The text of a paper."""
    if value[0] != "readers":
        return _write_line(value)
    _, views, stays, rows = value
    lines = [("readers",)]
    lines = lines + [("view", number, view) for number, view in views]
    lines = lines + [("stay", view, end) for view, end in stays]
    lines = lines + [("apart", row) for row in rows]
    return "\n".join([_write_line(line) for line in lines])


def read_paper(text):
    """The paper that the text writes; raises InvalidText for any other value."""
    if not isinstance(text, str):
        raise InvalidText(0, 0)
    lines = text.split("\n")
    first = _read_line(lines[0], 0, ("readers",) + BARS)
    if first[0] == "readers":
        return first + _read_entries(lines)
    if len(lines) > 1:
        raise InvalidText(1, 0)
    return first


def _read_entries(lines):
    found = {word: [] for word in ENTRIES}
    words = ENTRIES
    for at, line in enumerate(lines[1:]):
        entry = _read_line(line, at + 1, words)
        # No line that belongs further up stands behind this one.
        words = words[words.index(entry[0]):]
        found[entry[0]].append(entry[1] if entry[0] == "apart" else entry[1:])
    return tuple([tuple(found[word]) for word in ENTRIES])


def _read_line(text, at, allowed):
    words = text.split(" ")
    if words[0] not in allowed:
        raise InvalidText(at, 0)
    kinds = LINES[words[0]]
    parts = [words[0]]
    for kind, word in zip(kinds, words[1:]):
        part = read_integer(word)
        if not part_fits(kind, part, None):
            raise InvalidText(at, len(parts))
        parts.append(part)
    if len(parts) != len(words) or len(parts) != len(kinds) + 1:
        # Either the first word behind the line, or the number of the words.
        raise InvalidText(at, len(parts))
    return tuple(parts)


def _write_line(parts):
    return " ".join([str(part) for part in parts])
