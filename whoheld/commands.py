"""Commands: the lines that a desk carries out, and what their words are."""

from whoheld.errors import InvalidText, UnknownCommand
from whoheld.names import is_integer, is_key
from whoheld.rowtexts import NOTHING, read_integer, read_row

# For each first word the kinds of the words behind it.
COMMANDS = {
    "begin": ("new",),
    "reader": ("new",),
    "inner": ("new", "transaction"),
    "put": ("transaction", "text", "text"),
    "change": ("transaction", "text", "text"),
    "strike": ("transaction", "text"),
    "lock": ("transaction", "text"),
    "get": ("holder", "text"),
    "scan": ("holder", "text", "text"),
    "sign": ("transaction",),
    "prepare": ("transaction",),
    "commit": ("transaction",),
    "abort": ("transaction",),
    "close": ("reader",),
    "settle": ("integer", "ending"),
    "clean": (),
    "tidy": ("integer",),
    "sweep": (),
    "horizon": (),
    "synced": (),
    "hear": ("view",),
    "sync": (),
    "fall": ("integer",),
    "log": (),
    "load": ("rows",),
    "fewest": (),
    "views": (),
    "stays": (),
    "spans": (),
    "who": ("integer",),
    "bar": (),
}
# Behind these any number of integers may follow.
ENDLESS = ("clean", "tidy")
NAMING = ("new", "transaction", "holder", "reader")
LOADING = "load "


def read_command(line):
    """The pair of the word of a command and the list of the pairs (kind, part) of what is behind it."""
    if not isinstance(line, str):
        raise UnknownCommand()
    words = line.split(" ")
    if words[0] not in COMMANDS:
        raise UnknownCommand()
    if line.startswith(LOADING):
        return words[0], [("rows", _read_written_rows(line[len(LOADING):]))]
    kinds = list(COMMANDS[words[0]])
    if words[0] in ENDLESS:
        kinds = kinds + ["integer"] * (len(words) - len(kinds) - 1)
    if len(words) != len(kinds) + 1:
        raise UnknownCommand()
    told = list(zip(kinds, words[1:]))
    return words[0], [(kind, _read_word(kind, word, at + 1)) for at, (kind, word) in enumerate(told)]


def _read_written_rows(text):
    """The tuple of the rows that a text writes, with a slash between two of them."""
    if text == NOTHING:
        return ()
    rows = []
    for at, part in enumerate(text.split(" / ")):
        try:
            rows.append(read_row(part))
        except InvalidText as error:
            raise InvalidText(at, error.word) from None
    return tuple(rows)


def _read_word(kind, word, at):
    part = read_integer(word) if kind in ("integer", "view") else word
    if not _fits(kind, part):
        raise InvalidText(0, at)
    return None if kind == "view" and word == NOTHING else part


def _fits(kind, part):
    if kind in NAMING:
        return is_key(part)
    if kind == "text":
        return part != ""
    if kind == "ending":
        return part in ("commit", "abort")
    return is_integer(part) or (kind == "view" and part == NOTHING)
