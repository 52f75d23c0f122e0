"""Logs in which readers held cleanings: one behind the other, or across one another."""

from samples import TWO_COMMITS, puts
from whoheld.store import Store

# The example of the document: two readers, one behind the other, and what explains it.
EXAMPLE = TWO_COMMITS + (
    ("clean", 0, (), (0,)), ("open", 3, None), ("change", 3, 0, 1, 0, 2, "z"), ("commit", 3), ("clean", 0, (0,), (1,)),
)
VIEWS = ((1, 0), (2, 3), (3, 6))
STAYS = ((5, 7), (9, 11))

# Two pages. The version on page 0 was ended with the commit 17, those on page 1 with the commits 14 and 20; so the later
# one of the two cleanings at the end has the lesser ceiling.
CROSSED = (
    ("open", 1, None), *puts(1, 0, list("abcdefghij")), ("commit", 1), ("open", 2, None), ("strike", 2, 1, 0), ("commit", 2),
    ("open", 3, None), ("strike", 3, 0, 0), ("commit", 3), ("open", 4, None), ("strike", 4, 1, 1), ("commit", 4),
    ("clean", 0, (), tuple(range(8))), ("clean", 1, (), (0, 1)),
)


def chain(count, *, last=True):
    """So many readers that each hold one cleaning, and are gone by the next one."""
    store = Store()
    one = store.begin()
    one.put("k", "v")
    one.commit()
    for at in range(count):
        reader = store.reader()
        one = store.begin()
        one.change("k", "v")
        one.commit()
        store.clean(0)
        store.sweep()
        reader.close()
    if last:
        store.clean()
    return store.log


def spread(gaps):
    """Spans on as many pages that one reader can hold, with so many rows between them; at most five."""
    keys = [first + second for first in "abcde" for second in "abcdefgh"]
    rows = (("open", 1, None), *puts(1, 0, keys), ("commit", 1))
    for page, gap in enumerate((0,) + tuple(gaps)):
        number = page + 2
        # No view of a transaction is at or below the ceiling before it: it touches what was made there.
        chained = ("put", number, 5, 0, "z", "v") if page == 0 else ("change", number, 5, page - 1, 5, page, "v")
        rows += (("word", None),) * gap
        rows += (("open", number, None), chained, ("strike", number, page, 0), ("commit", number))
        rows += (("clean", page, (), tuple(range(8))),)
    return rows
