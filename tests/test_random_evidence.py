"""Logs that are made at random, also such as no history has, held against the definitions in `naive`."""

import random
import unittest

from naive import TOUCHING, Evidence, after
from oracle import Past
from samples import raised, same
from test_oracle import random_row
from whoheld.errors import Unplayed
from whoheld.floors import ceiling_of, floor_of, heights, spans
from whoheld.holders import open_spans, who, word_at
from whoheld.logs import Log
from whoheld.playing import played
from whoheld.ranges import end_of, range_of


def random_log(rng, length):
    past = Past(())
    while len(past.rows) < length:
        row = random_row(rng, past)
        if past.allows(row):
            past = after(past, row)
    return past.rows


def bounds_for_low(evidence, number):
    """Each bound of [14] for the low of a transaction, one by one."""
    yield 0
    first, end = evidence.numbers.opened[number], evidence.end(number)
    yield from (fall + 1 for fall in evidence.falls if fall < first)
    yield from (evidence.floors[q] + 1 for q in evidence.cleanings if q < end)
    if number in evidence.numbers.prepares:
        yield evidence.numbers.prepares[number][1]
    for index, version in touched_by(evidence, number):
        yield evidence.pasts[index].commit(version["maker"]) + 1


def bounds_for_high(evidence, number):
    yield evidence.numbers.opened[number]
    if number in evidence.numbers.prepares:
        yield evidence.numbers.prepares[number][1]
    for index, version in touched_by(evidence, number):
        if evidence.rows[index][0] == "refused":
            yield evidence.pasts[index].commit(version["ender"])


def touched_by(evidence, number):
    for index, row in enumerate(evidence.rows):
        if row[0] in TOUCHING and evidence.numbers.top(row[1]) == number:
            version = evidence.pasts[index].slots[row[2:4]]
            if evidence.numbers.top(version["maker"]) != number:
                yield index, version


class RandomEvidenceTest(unittest.TestCase):
    def setUp(self):
        self.counts = {"empty": 0, "nobody": 0, "high": 0, "open": 0, "word": 0, "unplayed": 0, "able": 0}

    def compare(self, rng, rows):
        evidence = Evidence(rows)
        for q in evidence.cleanings:
            same(self, [floor_of(rows, q), ceiling_of(rows, q)], [evidence.floors[q], evidence.ceiling(q)])
        same(self, list(spans(rows)), evidence.spans())
        lows = {number: max(bounds_for_low(evidence, number)) for number in evidence.outers}
        highs = {number: min(bounds_for_high(evidence, number)) for number in evidence.outers}
        for number in evidence.outers:
            low, high = range_of(rows, number)
            same(self, (low, high), (lows[number], highs[number]))
            # Each bound is one for this transaction alone.
            same(self, list(range(low, high + 1)), evidence.views[number])
            same(self, end_of(rows, number), evidence.end(number))
            self.counts["empty"] += low > high
            self.counts["high"] += high < evidence.numbers.opened[number]
        self.compare_holders(evidence, lows, highs)
        self.compare_played(rng, evidence)

    def compare_holders(self, evidence, lows, highs):
        rows, left = evidence.rows, []
        for q, ceiling in evidence.spans():
            able = [number for number in evidence.outers if lows[number] <= ceiling and evidence.end(number) > q]
            sure = tuple(number for number in able if highs[number] <= ceiling)
            possible = tuple(number for number in able if number not in sure)
            word = evidence.word_at(q)
            held = word if word is not None and word <= ceiling else None
            readers = [view for view in range(ceiling + 1) if evidence.reader_fits(view, q + 1)]
            told = who(rows, q)
            same(self, told, (held, sure, possible, (readers[0], readers[-1]) if readers else None))
            # The reader is told even if the floors of the rows before it are greater than all ceilings.
            self.assertEqual(told[3] is None, heights(rows)[q] >= ceiling)
            left += [(q, ceiling)] if held is None and not able else []
            self.counts["nobody"] += not readers
            self.counts["word"] += held is not None
            self.counts["able"] += len(able)
        same(self, list(open_spans(rows)), left)
        self.counts["open"] += len(left)
        for q in range(len(rows) + 1):
            same(self, word_at(rows, q), evidence.word_at(q))

    def compare_played(self, rng, evidence):
        for _ in range(4):
            views = [(number, rng.randrange(evidence.numbers.opened[number] + 1)) for number in evidence.outers
                     if rng.random() < 0.5]
            for number in evidence.outers:
                fitting = evidence.views[number]
                if fitting and number not in dict(views):
                    views.append((number, rng.choice(fitting)))
            stays = [(ceiling, q + 1) for q, ceiling in evidence.spans() if rng.random() < 0.8]
            expected = evidence.first_unplayed(views, stays)
            if expected is None:
                self.assertEqual(played(evidence.rows, views, stays).log, evidence.rows)
            else:
                self.assertEqual(raised(self, Unplayed, played, evidence.rows, views, stays).index, expected)
                self.counts["unplayed"] += 1

    def test_random_logs(self):
        for seed in range(100):
            rng = random.Random(seed)
            rows = random_log(rng, 45)
            self.assertEqual(Log(*rows).rows, rows)
            self.compare(rng, rows)
        self.assertGreater(min(self.counts.values()), 20, self.counts)
