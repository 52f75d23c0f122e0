"""Logs that are made at random, each row of them compared with the definitions in `oracle`."""

import random
import unittest

from oracle import Numbers, Past
from whoheld.errors import InvalidRow
from whoheld.fates import Fates
from whoheld.rows import is_row
from whoheld.rowtexts import read_rows, write_rows
from whoheld.states import State
from whoheld.views import count, get, page_slots, scan, seen

KEYS = ("a", "b", "c")
# How often each word is tried. The rows that are nearly always valid are tried seldom.
WEIGHTS = {
    "open": 5, "inner": 4, "put": 8, "change": 12, "strike": 4, "lock": 8, "refused": 24, "commit": 8, "abort": 3,
    "prepare": 3, "clean": 2, "tidy": 4, "sweep": 2, "word": 1, "fall": 0.4,
}


def random_spot(rng, past):
    held = list(past.versions())
    if held and rng.random() < 0.9:
        return rng.choice(held)
    return (rng.choice((0, 0, 1, 7)), rng.randrange(8))


def random_made_spot(rng, past):
    return past.due() if past.due() is not None and rng.random() < 0.9 else random_spot(rng, past)


def random_slots(rng, kept=()):
    return tuple(slot for slot in range(8) if slot not in kept and rng.random() < 0.2)


def random_clean(rng, past):
    page = rng.choice((0, 0, 0, 1))
    if rng.random() < 0.7:
        return ("clean", page) + past.cleaned(page, rng.randrange(len(past.rows) + 2))
    removed = random_slots(rng)
    return ("clean", page, removed, random_slots(rng, removed))


def random_row(rng, past):
    """A row that is often valid, but far from always."""
    word = rng.choices(list(WEIGHTS), list(WEIGHTS.values()))[0]
    greatest = max(past.numbers.opened, default=0)
    if word == "open":
        return ("open", greatest + rng.choice((1, 1, 1, 0, 2)), None)
    number = rng.choice(past.numbers.running or [1])
    if rng.random() < 0.3:
        number = rng.randrange(1, greatest + 2)
    if word == "inner":
        return ("open", greatest + 1, number)
    if word == "put":
        return ("put", number) + random_made_spot(rng, past) + (rng.choice(KEYS), rng.choice("xyz"))
    if word == "change":
        return ("change", number) + random_spot(rng, past) + random_made_spot(rng, past) + (rng.choice("xyz"),)
    if word in ("strike", "lock", "refused"):
        return (word, number) + random_spot(rng, past)
    if word in ("commit", "abort"):
        return (word, number)
    if word == "prepare":
        return ("prepare", number, rng.randrange(past.numbers.opened.get(number, 0) + 2))
    if word == "clean":
        return random_clean(rng, past)
    if word == "tidy":
        page, slot = random_spot(rng, past)
        return ("tidy", page, tuple(sorted({slot} | set(random_slots(rng) if rng.random() < 0.3 else ()))))
    if word == "word":
        return ("word", rng.choice((None, rng.randrange(len(past.rows) + 3))))
    return (word,)


class RandomLogsTest(unittest.TestCase):
    def compare_numbers(self, past, fates):
        for number in past.numbers.opened:
            for at in range(fates.first(number) + 1, len(past.rows) + 1, 3):
                self.assertEqual(fates.fate(number, at=at), Numbers(past.rows[:at]).fate(number))
            self.assertEqual(fates.fate(number), past.numbers.fate(number))
            self.assertEqual(fates.commit_of(number), past.commit(number))
            self.assertEqual(fates.family(number), tuple(past.numbers.family(number)))
            top = past.numbers.top(number)
            fate = past.numbers.fate(top)
            self.assertEqual(fates.end(number), len(past.rows) if fate[1] is None else fate[1])
            self.assertEqual(fates.prepared(number), past.numbers.prepares.get(top))
            acting = [other for other in past.numbers.family(number) if past.numbers.is_innermost(other)]
            self.assertEqual([fates.acting(number)], acting or [None])
        open_numbers = [number for number in past.numbers.opened if past.numbers.fate(number)[0] == "open"]
        self.assertEqual(fates.open_numbers(), tuple(open_numbers))

    def compare_slots(self, past, state):
        self.assertEqual(state.pages, past.pages())
        self.assertEqual(state.word_in_force, past.word())
        for (page, slot), version in past.versions().items():
            self.assertEqual(state.made_at(page, slot), past.commit(version["maker"]))
            self.assertEqual(state.ended_at(page, slot), past.commit(version["ender"]))
            self.assertIs(state.is_dead(page, slot), past.is_dead_below(version, len(past.rows) + 1))
        for page in (0, 1, 7):
            self.assertIs(state.is_plain(page), past.is_plain(page))
            for horizon in range(0, len(past.rows) + 2, 3):
                self.assertEqual(state.cleaned(page, horizon), past.cleaned(page, horizon))

    def compare_keys(self, past, state):
        for number in [None, len(past.numbers.opened) + 1] + list(past.numbers.opened):
            for key in KEYS:
                self.assertEqual(state.standing(key, number), past.standing(key, number))
                self.assertIs(state.has_own(key, number), past.has_own(key, number))
                self.assertEqual(state.doubts(key, number), past.doubts(key, number))

    def compare_views(self, past, state, view):
        for number in [None] + list(past.numbers.opened):
            expected = past.seen(view, number)
            self.assertEqual(count(state, view, number=number), len(expected))
            for key in KEYS:
                self.assertEqual(seen(state, view, key, number=number), expected.get(key))
            pairs = [(key, past.slots[expected[key]]["value"]) for key in sorted(expected)]
            self.assertEqual(list(scan(state, view, "a", "z", number=number)), pairs)
            for key, value in pairs:
                self.assertEqual(get(state, view, key, number=number), value)
        for page in (0, 1, 7):
            self.assertEqual(page_slots(state, view, page), past.page_slots(view, page))

    def refuse(self, state, row):
        rows, pages = state.rows, state.pages
        with self.assertRaises(InvalidRow) as caught:
            state.apply(row)
        self.assertEqual(caught.exception.index, len(rows))
        self.assertEqual((state.rows, state.pages), (rows, pages))

    def walk(self, seed, length):
        rng = random.Random(seed)
        state, past = State(), Past(())
        tries = 0
        while len(past.rows) < length and tries < 20 * length:
            tries += 1
            row = random_row(rng, past)
            self.assertIs(state.can_stand(row), past.allows(row), (past.rows, row))
            if not past.allows(row):
                if is_row(row) and rng.random() < 0.1:
                    self.refuse(state, row)
                continue
            state.apply(row)
            past = Past(past.rows + (row,))
            self.compare_slots(past, state)
            if len(past.rows) % 7 == 0:
                self.compare_numbers(past, state.fates())
                self.compare_keys(past, state)
                self.compare_views(past, state, rng.randrange(len(past.rows) + 2))
        self.assertEqual(state.rows, past.rows)
        self.assertEqual(State.of(past.rows).pages, past.pages())
        self.assertEqual(read_rows(write_rows(past.rows)), past.rows)
        self.assertEqual(Fates(*past.rows).open_numbers(), state.fates().open_numbers())
        return past.rows

    def test_random_logs(self):
        words = {}
        for seed in range(60):
            for row in self.walk(seed, 70):
                words[row[0]] = words.get(row[0], 0) + 1
        # Rows of every form came about, so every form was compared.
        self.assertEqual(len([word for word in words if words[word] >= 20]), 14, words)
