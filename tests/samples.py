"""Values, logs and houses that several tests share."""

from whoheld.houses import House

# Values of all kinds: none of them is a row, a key, a page or a number of a transaction.
ODD_VALUES = (
    None, True, False, -1, -5, 10 ** 59, -(10 ** 59), "", " ", "A", "k k", "k\n", "abcdefghi", "open", "None", "0", "7",
    (), (0,), (None,), ("open",), (0, 0, 0), ((0, 0), 0), [], [0], [0, 0], ["open", 1, None], {}, {"a": 1}, {0: 0},
    {"open": [1]}, ((((((),),),),),), "x" * 6000, tuple(range(100)), [[[]]], (True, False),
)
ODD_KEYS = tuple(value for value in ODD_VALUES if value != "open") + (
    0, 1, "k1", "kK", "k-", "-", "k_", "aaaaaaaaa", "\n", "k ", " k", ("k",), ["k"], {"k": "k"}, "a\nb",
)
ODD_PLACES = ODD_VALUES + (8, 9, 64, "a", "1", (1,), [1], {1: 1})
ODD_NUMBERS = ODD_VALUES + (0, 1000000, "a", "1", (1,), [1], {1: 1})

# An outer transaction commits two versions; its second number is an inner one.
BEGINNING = (
    ("open", 1, None),
    ("put", 1, 0, 0, "a", "x"),
    ("open", 2, 1),
    ("put", 2, 0, 1, "b", "y"),
    ("commit", 2),
    ("commit", 1),
)

# The first example of the cleaners in the document, up to the second commit.
TWO_COMMITS = (
    ("open", 1, None),
    ("put", 1, 0, 0, "k", "a"),
    ("commit", 1),
    ("open", 2, None),
    ("change", 2, 0, 0, 0, 1, "b"),
    ("commit", 2),
)


def version(key, value, maker, ender=None, old=False, lockers=()):
    """A slot image."""
    return ("version", key, value, maker, ender, old, lockers)


def puts(number, first, keys):
    """Rows that put these keys into the slots from the first one on, counted through all pages."""
    return tuple(
        ("put", number, (first + at) // 8, (first + at) % 8, key, "v") for at, key in enumerate(keys)
    )


def house_of(*rows, pages=8):
    """A house that took these rows."""
    house = House(pages=pages)
    for row in rows:
        house.take(row)
    return house


def letters(count):
    """So many keys, ascending."""
    alphabet = "abcdefghijklmnopqrstuvwxyz"
    return [alphabet[at // 26] + alphabet[at % 26] for at in range(count)]


def raised(case, error, work, *arguments, **named):
    """Calls `work`, asserts that it raises just this class of error, and returns the error."""
    with case.assertRaises(error) as caught:
        work(*arguments, **named)
    case.assertIs(type(caught.exception), error)
    return caught.exception


def same(case, one, other):
    """Asserts that two values are equal and of the same kinds throughout (True is not 1)."""
    case.assertEqual(kinds(one), kinds(other))


def kinds(value):
    """The value with the kind of each part beside it."""
    if isinstance(value, (tuple, list)):
        return (type(value).__name__, [kinds(part) for part in value])
    if isinstance(value, dict):
        return ("dict", [(kinds(key), kinds(part)) for key, part in value.items()])
    return (type(value).__name__, value)
