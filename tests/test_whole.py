"""Whole histories: a store, readers and a far copy whose true views are known, and what the log tells of them."""

import random
import unittest

from crowds import MANY, Crowd
from driving import Driver
from samples import same
from whoheld.apartness import shows_readers
from whoheld.barcheck import shows_bar, shows_paper
from whoheld.bars import bar
from whoheld.desk import Desk
from whoheld.explaining import explains, first_lack
from whoheld.far import Far
from whoheld.fewest import fewest_readers, paper
from whoheld.floors import ceiling_of, floor_of, spans
from whoheld.held import Held
from whoheld.holders import open_spans, who
from whoheld.logs import Log
from whoheld.papertexts import read_paper, write_paper
from whoheld.playing import played
from whoheld.ranges import end_of, ranges
from whoheld.reasoncheck import shows_ceiling, shows_floor
from whoheld.reasons import ceiling_reason, floor_reason
from whoheld.rowtexts import write_row
from whoheld.shortcheck import shows_shortest
from whoheld.shortest import shortest


class FarHistory:
    """A far copy of a driven store: its words are heard, and its readers are never cancelled for long."""

    def __init__(self, driver):
        self.driver, self.far, self.readers = driver, Far(), []

    def drive(self, length):
        driver, rng = self.driver, self.driver.rng
        while len(driver.store.log) < length:
            driver.step()
            if rng.random() < 0.2:
                self.far.follow(driver.store)
            if rng.random() < 0.1:
                self.readers.append((self.far.reader(), dict(self.far.reading(lambda reader: list(reader.scan("a", "z"))))))
            if rng.random() < 0.1 and self.readers:
                rng.choice(self.readers)[0].close()
            if rng.random() < 0.15:
                driver.store.hear(self.far.least_view)
            self.check_readers()

    def check_readers(self):
        for reader, seen in self.readers:
            if reader.state == "open":
                assert dict(reader.scan("a", "z")) == seen


class WholeTest(unittest.TestCase):
    def histories(self):
        for seed in range(24):
            rng = random.Random(seed)
            weights = dict(MANY, hear=0, begin=2, commit=24, reader=14, close=12)
            driver = Crowd(rng, **weights) if seed % 2 else Driver(rng, weights=dict(weights, clean=10))
            history = FarHistory(driver)
            history.drive(110)
            yield history

    def test_histories(self):
        counts = {"far": 0, "open": 0, "sure": 0, "readers": 0, "cancelled": 0}
        for history in self.histories():
            driver = history.driver
            rows, views, stays = driver.store.log, tuple(driver.views()), tuple(driver.stays())
            self.check_true_ones(rows, views, stays, counts)
            self.check_paper(rows)
            self.check_all_reasons(rows)
            self.check_desk(rows, driver)
            counts["far"] += len(history.readers)
            counts["cancelled"] += len(history.far.cancelled)
            counts["readers"] += fewest_readers(rows)
            self.assertLessEqual(fewest_readers(rows), len(stays))
        self.assertGreater(min(counts.values()), 5, counts)

    def check_true_ones(self, rows, views, stays, counts):
        self.assertIsNone(bar(rows))
        self.assertIsNone(first_lack(rows, views, stays))
        self.assertTrue(explains(rows, views, stays))
        self.assertEqual(played(rows, views, stays).log, rows)
        for number, low, high in ranges(rows):
            self.assertTrue(low <= dict(views)[number] <= high)
        for row, ceiling in spans(rows):
            word, sure, possible, reader = who(rows, row)
            held_by = [number for number, view in views if view <= ceiling and end_of(rows, number) > row]
            # Who surely held a span truly held it, and who truly held it is told.
            self.assertLessEqual(set(sure), set(held_by))
            self.assertLessEqual(set(held_by), set(sure + possible))
            truly = [view for view, end in stays if view <= ceiling and end > row]
            self.assertTrue(all(reader[0] <= view for view in truly))
            self.assertTrue(word is not None or held_by or truly)
            counts["sure"] += len(sure)
        counts["open"] += len(list(open_spans(rows)))

    def check_paper(self, rows):
        told = paper(rows)
        self.assertTrue(shows_readers(rows, told) and shows_paper(rows, told) and not shows_bar(rows, told))
        same(self, [read_paper(write_paper(told)), Held(rows).paper], [told, told])
        self.assertEqual(played(rows, told[1], told[2]).log, rows)
        self.assertTrue(explains(rows, told[1], told[2]))
        count = fewest_readers(rows)
        for more in (0, 1):
            length, stays, table = shortest(rows, count + more)
            self.assertTrue(shows_shortest(rows, count + more, (length, stays, table)))
            self.assertEqual(played(rows, told[1], stays).log, rows)

    def check_all_reasons(self, rows):
        for row, told in enumerate(rows):
            if told[0] in ("clean", "tidy"):
                floor, ceiling = floor_of(rows, row), ceiling_of(rows, row)
                if floor >= 0:
                    self.assertTrue(shows_floor(rows, row, floor, floor_reason(rows, row)))
                if ceiling is not None:
                    self.assertTrue(shows_ceiling(rows, row, ceiling, ceiling_reason(rows, row)))

    def check_desk(self, rows, driver):
        log = Log(*rows)
        same(self, [Log.read(str(log)) == log, log.state_behind().rows], [True, rows])
        desk = Desk()
        text = " / ".join(write_row(row) for row in rows)
        if all(transaction.state == "prepared" for transaction in driver.outers
               if transaction.state in ("open", "prepared") and transaction.number is not None):
            same(self, [desk.say("load " + text), desk.say("log"), desk.say("fewest"), desk.say("bar")],
                 ["ok", text, str(fewest_readers(rows)), "-"])

    def test_a_word_of_a_far_copy_holds_what_its_readers_need(self):
        # The far copy says its word ahead of each cleaning, so it cancels nobody when it takes the rows.
        for seed in range(20):
            driver = Driver(random.Random(seed), weights=dict(hear=0, tidy=0, fall=0))
            history = FarHistory(driver)
            for _ in range(12):
                history.drive(len(driver.store.log) + 5)
                driver.store.sync()
                history.far.follow(driver.store)
                history.readers.append((history.far.reader(), dict(history.far.reader().scan("a", "z"))))
                driver.store.hear(history.far.least_view)
                told = history.far.cancelled
                driver.store.clean()
                driver.store.sync()
                history.far.follow(driver.store)
                same(self, history.far.cancelled, told)
            self.assertIsNone(bar(driver.store.log))
            same(self, history.far.log, driver.store.log)
