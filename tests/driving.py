"""Stores that are driven at random, with the views and stays that they truly had."""

from whoheld.errors import AbsentError, HoldError, SizeError, TurnError
from whoheld.store import Store

OWN_ERRORS = (HoldError, TurnError, AbsentError, SizeError)
WEIGHTS = {
    "begin": 6, "inner": 3, "reader": 5, "close": 4, "put": 8, "change": 12, "strike": 4, "lock": 4, "sign": 1,
    "commit": 12, "abort": 2, "prepare": 1, "settle": 2, "clean": 8, "tidy": 3, "sweep": 2, "hear": 1.5, "fall": 0.5,
}


class Driver:
    """A store, and each outer transaction and reader that it had, with the end of each."""

    def __init__(self, rng, *, pages=8, keys="abc", weights=None):
        self.rng = rng
        self.keys = keys
        self.weights = dict(WEIGHTS, **(weights or {}))
        self.store = Store(pages=pages)
        self.outers = []  # transactions
        self.holders = []  # [transaction or reader, its end or None]

    def drive(self, length):
        while len(self.store.log) < length:
            self.step()
        return self

    def step(self):
        word = self.rng.choices(list(self.weights), list(self.weights.values()))[0]
        try:
            self.act(word)
        except OWN_ERRORS:
            pass
        self.note_ends()

    def note_ends(self):
        for entry in self.holders:
            if entry[1] is None and entry[0].state != "open":
                fell = entry[0].state == "fallen"
                entry[1] = len(self.store.log) - (1 if fell else 0)

    def some_transaction(self):
        """A transaction that may act: mostly the innermost open one of a family."""
        live = [outer for outer in self.outers if outer.state == "open"]
        if not live:
            return self.begin()
        found = self.rng.choice(live[-4:])
        while found._within is not None:
            found = found._within
        return found

    def begin(self):
        self.outers.append(self.store.begin())
        self.holders.append([self.outers[-1], None])
        return self.outers[-1]

    def act(self, word):
        rng, store, key = self.rng, self.store, self.rng.choice(self.keys)
        if word == "begin":
            self.begin()
        elif word == "reader":
            self.holders.append([store.reader(), None])
        elif word == "close":
            readers = [entry[0] for entry in self.holders if entry[0].state == "open" and hasattr(entry[0], "close")]
            rng.choice(readers or [store.reader()]).close()
        elif word in ("put", "change"):
            getattr(self.some_transaction(), word)(key, rng.choice("xyz"))
        elif word in ("strike", "lock"):
            getattr(self.some_transaction(), word)(key)
        elif word in ("inner", "sign", "commit", "abort", "prepare"):
            getattr(self.some_transaction(), word)()
        elif word == "settle":
            store.settle(rng.choice([number for number, _ in store.state.waiting()] or [0]), commit=rng.random() < 0.7)
        elif word == "clean":
            store.clean(*rng.choice(((), (0,), (0,))))
        elif word == "tidy":
            store.tidy(0, rng.randrange(8))
        elif word == "sweep":
            store.sweep()
        elif word == "hear":
            store.hear(rng.choice((None, rng.randrange(max(0, len(store.log) - 12), len(store.log) + 1))))
        else:
            self.fall(rng.choice((0, rng.randrange(len(store.log) - store.synced + 1))))

    def fall(self, lost):
        kept = len(self.store.log) - lost
        numbers = [row[1] for row in self.store.log[:kept] if row[0] == "open"]
        self.note_ends()
        self.store.fall(lost=lost)
        for entry in self.holders:
            entry[1] = entry[1] if entry[1] is None else min(entry[1], kept)
        for outer in self.outers:
            # What a lost row did has not happened: such a transaction was a reader.
            if outer.number is not None and outer.number not in numbers:
                self.outers = [other for other in self.outers if other != outer]

    def views(self):
        """The pairs (number, view) of the transactions that have a number in the log."""
        return sorted((outer.number, outer.view) for outer in self.outers if outer.number is not None)

    def stays(self):
        """The pairs (view, end) of the readers, and of the transactions that have no number in the log."""
        numbered = [outer for outer in self.outers if outer.number is not None]
        found = [(holder.view, len(self.store.log) if end is None else end) for holder, end in self.holders
                 if holder not in numbered]
        return sorted({(view, end) for view, end in found if view < end})
