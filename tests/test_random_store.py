"""Stores that are driven at random, each call held against the naive store in `model`."""

import random
import unittest

from driving import OWN_ERRORS
from model import Model
from whoheld.errors import Full
from whoheld.store import Store

KEYS = "abc"
WEIGHTS = {
    "begin": 6, "reader": 4, "close": 3, "inner": 8, "put": 10, "change": 14, "strike": 5, "lock": 8, "sign": 2,
    "commit": 14, "abort": 4, "prepare": 2, "settle": 3, "clean": 6, "tidy": 5, "sweep": 3, "hear": 2, "sync": 1,
    "fall": 1.5, "attempt": 5, "hand": 3,
}


def told(error):
    """An error as the model tells it."""
    attributes = list(vars(error).values())
    return ("error", type(error).__name__, attributes[0] if attributes else None)


def asked(work, *arguments, **named):
    try:
        return work(*arguments, **named)
    except OWN_ERRORS as error:
        return told(error)


class RandomStoreTest(unittest.TestCase):
    def setUp(self):
        self.counts = {}

    def begin_run(self, seed, pages):
        self.rng = random.Random(seed)
        self.store, self.model = Store(pages=pages), Model(pages)
        self.transactions, self.readers, self.hand = [], [], []

    def same(self, name, real, expected):
        self.assertEqual(real, expected, (name, self.model.log))
        self.assertEqual(repr(real), repr(expected), name)
        what = expected[1] if isinstance(expected, tuple) and expected[:1] == ("error",) else expected
        what = what if isinstance(what, (bool, str)) else "done"
        self.counts[name, what] = self.counts.get((name, what), 0) + 1
        return real

    def pair(self):
        """A transaction and its thing: mostly the innermost one of a family that is open."""
        live = [pair for pair in self.transactions if pair[1].state == "open"]
        if not live or self.rng.random() < 0.05:
            self.add("begin")
            live = self.transactions
        if self.rng.random() < 0.1:
            return self.rng.choice(self.transactions)
        real, thing = self.rng.choice(live[-6:])
        within = self.model.within(thing)
        if within and self.rng.random() < 0.8:
            return [pair for pair in self.transactions if pair[1] == within[0]][0]
        return real, thing

    def add(self, word):
        view = len(self.model.log)
        if word == "begin":
            self.transactions.append((self.store.begin(), self.model.add("transaction", view)))
        else:
            self.readers.append((self.store.reader(), self.model.add("reader", view)))

    def act(self, word):
        rng, store, model, key = self.rng, self.store, self.model, self.rng.choice(KEYS)
        if word in ("begin", "reader"):
            self.add(word)
        elif word == "close":
            self.close()
        elif word == "settle":
            number = rng.choice([number for number, _ in model.waiting()] + [1, 7])
            commit = rng.random() < 0.6
            self.same(word, asked(store.settle, number, commit=commit), model.settle(number, commit))
        elif word == "clean":
            pages = rng.choice(((), (0,), (0, 0), (store.page_count - 1, 0)))
            self.same(word, asked(store.clean, *pages), model.clean(pages))
        elif word == "tidy":
            slots = tuple(rng.randrange(8) for _ in range(rng.choice((0, 1, 1, 1, 2))))
            self.same(word, asked(store.tidy, 0, *slots), model.tidy(0, slots))
        elif word == "sweep":
            self.same(word, store.sweep(), model.sweep())
        elif word == "hear":
            view = rng.choice((None, rng.randrange(len(model.log) + 2)))
            self.same(word, asked(store.hear, view), model.hear(view))
        elif word == "sync":
            self.same(word, store.sync(), None)
            model.synced = len(model.log)
        elif word == "fall":
            lost = rng.choice((0, 1, rng.randrange(len(model.log) - model.synced + 2)))
            self.same(word, asked(store.fall, lost=lost), model.fall(lost))
            # A number that was lost may be given to a transaction of the store.
            self.hand = [number for number in self.hand if number in model.past.numbers.opened]
        elif word == "hand":
            self.act_by_hand()
        else:
            self.act_on(word, *self.pair(), key)

    def close(self):
        if self.readers:
            real, thing = self.rng.choice(self.readers)
            self.same("close", real.close(), thing.state == "open")
            thing.state = "closed" if thing.state == "open" else thing.state

    def act_by_hand(self):
        """Passes a row that names no number of a transaction of the store, and takes it if it is valid."""
        rng, model = self.rng, self.model
        greatest = max(model.past.numbers.opened, default=0)
        number = rng.choice(self.hand or [greatest + 1])
        spot = rng.choice(list(model.past.versions()) or [(0, 0)])
        row = rng.choice((
            ("open", greatest + 1, None), ("fall",), ("lock", number) + spot, ("strike", number) + spot,
            ("commit", number), ("abort", number), ("prepare", number, 0), ("word", len(model.log) + 1), ("sweep",),
        ))
        if row == ("fall",) and rng.random() < 0.7:
            return
        expected = None if model.past.allows(row) else ("error", "InvalidRow", len(model.log))
        self.same("take", asked(self.store.take, row), expected)
        if expected is None:
            model.write(*row)
            if row[0] == "open":
                self.hand.append(row[1])

    def act_on(self, word, real, thing, key):
        model, value = self.model, self.rng.choice("xyz")
        if word == "put":
            self.same(word, asked(real.put, key, value), model.put(thing, key, value))
        elif word == "change":
            self.same(word, asked(real.change, key, value), model.deed(thing, word, key, value))
        elif word in ("strike", "lock"):
            self.same(word, asked(getattr(real, word), key), model.deed(thing, word, key))
        elif word == "sign":
            self.same(word, asked(real.sign), model.signed(thing))
        elif word == "inner":
            self.act_inner(real, thing)
        elif word == "attempt":
            self.act_attempt(real, thing)
        else:
            self.same(word, asked(getattr(real, word)), getattr(model, word)(thing))

    def act_inner(self, real, thing):
        inner, expected = asked(real.inner), self.model.inner(thing)
        if isinstance(expected, tuple):
            self.same("inner", inner, expected)
        else:
            self.same("inner", inner.outer == real, True)
            self.transactions.append((inner, expected))

    def act_attempt(self, real, thing):
        rng, model, made = self.rng, self.model, []
        ending = rng.choice(("return", "return", "raise", "commit", "abort", "fall", "outer"))

        def work(inner):
            made.append((inner, model.inner(thing)))
            self.transactions.append(made[0])
            for _ in range(rng.randrange(3)):
                self.act_on(rng.choice(("put", "change", "lock", "inner")), *self.pair_within(made[0]), rng.choice(KEYS))
            if ending in ("commit", "abort"):
                self.act_on(ending, *made[0], "a")
            elif ending == "fall":
                self.same("fall", asked(self.store.fall, lost=0), model.fall(0))
            elif ending == "outer":
                self.act_on("abort", real, thing, "a")
            self.compare()
            if ending == "raise":
                raise Full()
            return 17

        found = asked(real.attempt, work)
        if not made:
            return self.same("attempt", found, model.inner(thing))
        if made[0][1].state == "open" and ending == "raise":
            model.abort(made[0][1])
        elif made[0][1].state == "open":
            for member in model.within(made[0][1]) + [made[0][1]]:
                model.commit(member)
        return self.same("attempt", found, ("error", "Full", None) if ending == "raise" else 17)

    def pair_within(self, pair):
        within = self.model.within(pair[1])
        if within:
            return [other for other in self.transactions if other[1] == within[0]][0]
        return pair

    def compare(self):
        store, model = self.store, self.model
        self.assertEqual(
            [store.log, store.synced, store.heard, store.horizon, store.local_horizon, store.open_views(),
             store.transactions(), store.state.pages, store.state.rows, len(store.state)],
            [model.log, model.synced, model.past.word(), model.horizon(), model.horizon(False), model.open_views(),
             model.transactions(), model.past.pages(), model.log, len(model.log)],
        )
        for real, thing in self.transactions:
            self.assertEqual([real.view, real.number, real.state], [thing.view, thing.number, thing.state])
        for real, thing in self.readers:
            self.assertEqual([real.view, real.state], [thing.view, thing.state])

    def compare_reading(self):
        for real, thing in self.transactions + self.readers:
            expected = self.model.pairs(thing)
            self.assertEqual(asked(lambda: list(real.scan("a", "z"))), expected)
            if isinstance(expected, tuple):
                expected = {}
                self.assertEqual(asked(real.get, "a"), ("error", "Ended", None))
            else:
                self.assertEqual([real.get(key) for key in KEYS], [dict(expected).get(key) for key in KEYS])
            if thing.kind == "reader" and thing.state == "open":
                self.assertEqual([len(real), "a" in real], [len(expected), "a" in dict(expected)])
            elif thing.kind == "transaction" and thing.state == "open":
                self.assertEqual(real.count(), len(expected))

    def run_store(self, seed, steps, pages=8, **weights):
        self.begin_run(seed, pages)
        weights = dict(WEIGHTS, **weights)
        for step in range(steps):
            self.act(self.rng.choices(list(weights), list(weights.values()))[0])
            self.compare()
            if step % 5 == 0:
                self.compare_reading()
        self.compare_again()

    def compare_again(self):
        """The same log in another store, if no transaction is open unless it is prepared."""
        self.store.fall()
        again = Store.of(self.store.log, pages=self.store.page_count)
        self.assertEqual([again.log, again.synced, again.state.pages, again.transactions(), again.heard],
                         [self.store.log, len(self.store.log), self.store.state.pages, self.store.transactions(), None])

    def test_random_stores(self):
        for seed in range(60):
            self.run_store(seed, 80)
        for seed in range(60, 100):
            self.run_store(seed, 140, fall=0.3, hand=1, abort=2, begin=10)
        for seed in range(100, 130):
            self.run_store(seed, 110, pages=1, fall=0.3, clean=1, sweep=0.5, abort=2)
        for name in ("Ended", "Busy", "NoKey", "Blocked"):
            self.assertGreater(self.counts["change", name], 5, self.counts)
        for place in (("put", "Taken"), ("put", "Blocked"), ("put", "Full"), ("change", "Full"), ("change", False),
                      ("strike", False), ("lock", False), ("lock", True), ("inner", "TooDeep"), ("inner", "Busy"),
                      ("prepare", "NotOuter"), ("prepare", "Busy"), ("prepare", "done"), ("settle", "done"),
                      ("settle", "NotPrepared"), ("fall", "InvalidLoss"), ("tidy", "NotDead"), ("tidy", "done"),
                      ("hear", "InvalidView"), ("attempt", "Full"), ("attempt", "done"), ("attempt", "Busy"),
                      ("take", "InvalidRow"), ("take", "done"), ("commit", "Busy"), ("abort", "Ended")):
            self.assertGreater(self.counts.get(place, 0) + self.counts.get((place[0], None), 0), 3, (place, self.counts))
