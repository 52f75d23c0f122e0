"""Logs at random in which cleanings leave much: several pages, many readers, each page cleaned by itself."""

import random

from driving import Driver
from naive import after
from oracle import Past
from test_oracle import random_row

MANY = {"clean": 14, "reader": 9, "close": 9, "change": 16, "begin": 6, "commit": 16, "hear": 0.4, "fall": 0.4, "put": 3,
        "tidy": 2, "lock": 2, "inner": 1, "abort": 1}


class Crowd(Driver):
    """A store with versions on three pages, and whoever reads and writes there."""

    def __init__(self, rng, **weights):
        super().__init__(rng, keys="abcdefghijklmnopqr", weights=dict(MANY, **weights))
        first = self.begin()
        for key in self.keys:
            first.put(key, "v")
        first.commit()
        self.note_ends()

    def act(self, word):
        if word == "clean":
            self.store.clean(self.rng.randrange(4))
        else:
            super().act(word)


def crowd(seed, length, **weights):
    """A store that was driven until its log has this length, and 19 rows more at the beginning."""
    return Crowd(random.Random(seed), **weights).drive(20 + length)


def any_log(rng, length):
    """Rows that a store need not write: often no history has them."""
    past = Past(())
    while len(past.rows) < length:
        row = random_row(rng, past)
        if past.allows(row):
            past = after(past, row)
    return past.rows


def longer(rng, rows, count):
    """The rows with so many others behind them, whatever a store would write."""
    past = Past(rows)
    while len(past.rows) < len(rows) + count:
        row = random_row(rng, past)
        if past.allows(row):
            past = after(past, row)
    return past.rows
