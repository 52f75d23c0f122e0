import random
import unittest
from itertools import combinations

from chains import CROSSED, EXAMPLE, STAYS, VIEWS, chain
from crowds import any_log, crowd
from driving import Driver
from samples import ODD_VALUES, TWO_COMMITS, raised, same
from showing import Showing
from whoheld.apartness import are_apart, is_apart, shows_readers
from whoheld.bars import bar
from whoheld.errors import Barred, InvalidRow
from whoheld.explaining import explains
from whoheld.fewest import apart, fewest_readers, paper, stays
from whoheld.holders import open_spans
from whoheld.playing import played
from whoheld.ranges import ranges

FUNCTIONS = (fewest_readers, apart, stays, paper)
ROWS = TWO_COMMITS + (("clean", 0, (), (0,)),)


class FewestCase(unittest.TestCase):
    def check(self, rows, count):
        """The paper of the rows tells so many readers, and is right."""
        lows = tuple((number, low) for number, low, _ in ranges(rows))
        same(self, paper(rows), ("readers", lows, stays(rows), apart(rows)))
        same(self, [fewest_readers(rows), len(stays(rows)), len(apart(rows))], [count] * 3)
        self.assertIs(shows_readers(rows, paper(rows)), True)
        self.assertTrue(explains(rows, lows, stays(rows)))
        for row, other in combinations(apart(rows), 2):
            self.assertTrue(are_apart(rows, row, other))
        self.assertEqual(played(rows, lows, stays(rows)).log, rows)
        for function in FUNCTIONS:
            same(self, function(rows=rows), function(rows))


class FewestTest(FewestCase):
    def test_no_spans(self):
        for rows in ((), TWO_COMMITS, TWO_COMMITS + (("clean", 0, (0,), (1,)),), (("clean", 0, (), ()), ("fall",))):
            self.check(rows, 0)
            same(self, [apart(rows), stays(rows)], [(), ()])

    def test_one_span(self):
        self.check(ROWS, 1)
        same(self, [apart(ROWS), stays(ROWS)], [(6,), ((5, 7),)])
        same(self, paper(ROWS), ("readers", ((1, 0), (2, 3)), ((5, 7),), (6,)))

    def test_the_examples(self):
        self.check(EXAMPLE, 2)
        same(self, [paper(EXAMPLE), apart(EXAMPLE)], [("readers", VIEWS, STAYS, (6, 10)), (6, 10)])
        # 3 may have begun ahead of the second commit.
        rows = ROWS + (("open", 3, None), ("put", 3, 0, 2, "b", "w"))
        self.check(rows, 0)

    def test_spans_that_transactions_hold(self):
        self.check(ROWS + (("open", 3, None),), 0)
        self.check(ROWS + (("open", 3, None), ("commit", 3)), 0)
        self.check(ROWS + (("open", 3, None), ("refused", 3, 0, 0)), 0)
        self.check(ROWS + (("open", 3, None), ("lock", 3, 0, 1)), 1)
        self.check(TWO_COMMITS + (("open", 3, None), ("commit", 3), ("clean", 0, (), (0,))), 1)

    def test_spans_that_words_hold(self):
        for word in range(3, 7):
            self.check(TWO_COMMITS + (("word", word),) * 2 + (("clean", 0, (), (0,)),), 0 if word <= 5 else 1)

    def test_chains_of_spans_that_are_apart(self):
        for count in range(12):
            for last in (True, False):
                self.check(chain(count, last=last), count)

    def test_spans_that_one_reader_holds(self):
        rows = ROWS
        for _ in range(6):
            rows += (("clean", 0, (), ()),)
            self.check(rows, 1)
        same(self, [apart(rows), stays(rows)], [(6,), ((5, 13),)])
        # Versions of other transactions, which end later.
        rows = ROWS + (("open", 3, None), ("change", 3, 0, 1, 0, 2, "c"), ("commit", 3), ("clean", 0, (), ()))
        self.check(rows, 1)
        same(self, stays(rows), ((5, 11),))

    def test_the_later_cleaning_has_the_lesser_ceiling(self):
        same(self, list(open_spans(CROSSED)), [(21, 17), (22, 14)])
        self.check(CROSSED, 1)
        same(self, stays(CROSSED), ((14, 23),))
        # It is gone by the next cleaning; who held the first one need not be.
        rows = CROSSED + (("clean", 1, (0,), ()),)
        same(self, list(open_spans(rows)), [(21, 17), (22, 14), (23, 20)])
        self.check(rows, 2)
        same(self, [apart(rows), stays(rows)], [(22, 23), ((14, 23), (20, 24))])
        # With the lesser ceiling first one reader is enough for the last two.
        rows = CROSSED[:21] + (CROSSED[22], ("clean", 1, (0,), ()), CROSSED[21])
        same(self, list(open_spans(rows)), [(21, 14), (22, 20), (23, 17)])
        self.check(rows, 2)
        same(self, [apart(rows), stays(rows)], [(21, 23), ((14, 22), (17, 24))])

    def test_falls_between(self):
        rows = ROWS + (("fall",), ("open", 3, None), ("change", 3, 0, 1, 0, 2, "z"), ("commit", 3), ("clean", 0, (0,), (1,)))
        self.check(rows, 2)

    def test_the_same_each_time(self):
        rows = crowd(3, 80).store.log
        for function in FUNCTIONS:
            same(self, [function(rows) for _ in range(3)], [function(rows)] * 3)


class BarredTest(unittest.TestCase):
    def test_barred_logs(self):
        for seed in range(80):
            rows = any_log(random.Random(seed), 30)
            told = bar(rows)
            for function in (fewest_readers, apart, stays) if told is not None else ():
                same(self, raised(self, Barred, function, rows).bar, told)
            if told is not None:
                same(self, paper(rows), told)

    def test_rows_that_are_not_valid(self):
        for function in FUNCTIONS:
            for at in (0, 4, 7):
                for value in ODD_VALUES + (("sweep",), ["fall"]):
                    self.assertEqual(raised(self, InvalidRow, function, ROWS[:at] + (value,) + ROWS[at:]).index, at)
            for value in ODD_VALUES + (list(ROWS),):
                if not isinstance(value, tuple):
                    self.assertEqual(raised(self, InvalidRow, function, value).index, 0)
            # That is told ahead of a bar.
            rows = TWO_COMMITS + (("word", 0), ("clean", 0, (), (0,)))
            same(self, raised(self, InvalidRow, function, rows + (("sweep",),)).index, 8)


class RandomTest(FewestCase):
    def test_all_groupings(self):
        counts = {}
        for seed in range(150):
            driver = crowd(seed, 90, begin=2, commit=24, reader=14, close=12)
            if 2 <= len(list(open_spans(driver.store.log))) <= 7:
                showing = Showing(driver.store.log)
                same(self, list(open_spans(showing.rows)), showing.open)
                count = min(showing.sums_of_lengths())
                self.assertEqual(showing.most_apart(), count)
                self.check(showing.rows, count)
                counts[count] = counts.get(count, 0) + 1
        self.assertGreaterEqual(min(counts[count] for count in (1, 2, 3)), 2, counts)

    def test_true_readers_are_no_fewer(self):
        for seed in range(60):
            driver = Driver(random.Random(seed)).drive(90) if seed % 2 else crowd(seed, 100)
            rows = driver.store.log
            self.check(rows, fewest_readers(rows))
            self.assertLessEqual(fewest_readers(rows), len(driver.stays()))

    def test_beginnings(self):
        # Each beginning of a log that is not barred is not barred, and what is apart stays so only if it stays open.
        rows = crowd(21, 110, begin=2, commit=24, reader=14, close=12).store.log
        for length in range(0, len(rows), 5):
            self.check(rows[:length], fewest_readers(rows[:length]))
            self.assertIs(is_apart(rows[:length], apart(rows[:length])), True)

    def test_a_log_as_long_as_it_may_be(self):
        driver = crowd(8, 100, begin=0.5, commit=24, inner=0)
        while len(driver.store.log) < 400 and driver.store.state.next_number() <= 60:
            driver.step()
        rows = driver.store.log[:400]
        self.check(rows, fewest_readers(rows))
