import random
import unittest

from driving import Driver
from naive import Evidence
from samples import ODD_VALUES, TWO_COMMITS, raised, same
from whoheld.errors import InvalidRow, NotSpan
from whoheld.floors import heights
from whoheld.holders import open_spans, who, word_at

# The span (6, 5) with the floor 2.
ROWS = TWO_COMMITS + (("clean", 0, (), (0,)),)


class WordTest(unittest.TestCase):
    def test_words(self):
        rows = (("word", 0), ("open", 1, None), ("word", 2), ("fall",), ("word", None), ("word", 1))
        same(self, [word_at(rows, row) for row in range(7)], [None, 0, 0, 2, None, None, 1])
        same(self, [word_at((), 0), word_at(rows=(("word", 0),), row=1)], [None, 0])


class WhoTest(unittest.TestCase):
    def test_the_example(self):
        same(self, who(ROWS, 6), (None, (), (), (3, 5)))
        rows = ROWS + (("open", 3, None), ("put", 3, 0, 2, "b", "w"))
        same(self, [who(rows=rows, row=6), list(open_spans(rows)), list(open_spans(rows=ROWS))],
             [(None, (), (3,), (3, 5)), [], [(6, 5)]])

    def test_words_that_hold_and_do_not(self):
        for word in range(7):
            rows = TWO_COMMITS + (("word", word), ("clean", 0, (), (0,)))
            told = who(rows, 7)
            same(self, told, (word if word <= 5 else None, (), (), (3, 5)))
            same(self, list(open_spans(rows)), [] if word <= 5 else [(7, 5)])
        rows = TWO_COMMITS + (("word", 4), ("word", None), ("clean", 0, (), (0,)))
        same(self, who(rows, 8)[0], None)

    def test_a_word_behind_a_fall(self):
        rows = TWO_COMMITS[:5] + (("word", 3), ("commit", 2), ("fall",), ("clean", 0, (), (0,)))
        # The reader would have begun ahead of the fall, and behind it.
        self.assertEqual(raised(self, InvalidRow, who, rows + (("sweep",),), 8).index, 9)
        rows = TWO_COMMITS[:4] + (("word", 3), ("fall",), ("open", 3, None), ("change", 3, 0, 0, 0, 1, "b"), ("commit", 3),
                                  ("clean", 0, (), (0,)))
        same(self, who(rows, 9), (None, (), (), (6, 8)))
        rows = rows[:6] + (("word", 4),) + rows[6:]
        same(self, who(rows, 10), (4, (), (), (6, 9)))

    def test_transactions_that_surely_hold(self):
        rows = TWO_COMMITS[:4] + (("open", 3, None), ("change", 2, 0, 0, 0, 1, "b"), ("commit", 2), ("clean", 0, (), (0,)))
        same(self, [who(rows, 7), list(open_spans(rows))], [(None, (3,), (), (3, 6)), []])
        # A refused one: its view is at most 5.
        rows = ROWS + (("open", 3, None), ("refused", 3, 0, 0))
        same(self, who(rows, 6), (None, (3,), (), (3, 5)))
        rows = ROWS + (("open", 3, None), ("prepare", 3, 4))
        same(self, who(rows, 6), (None, (3,), (), (3, 5)))
        rows = ROWS + (("open", 3, None), ("prepare", 3, 6))
        same(self, who(rows, 6), (None, (), (), (3, 5)))

    def test_transactions_that_can_hold(self):
        # One that began behind the row may have had an earlier view.
        rows = ROWS + (("open", 3, None), ("open", 4, None), ("open", 5, 4))
        same(self, who(rows, 6), (None, (), (3, 4), (3, 5)))
        # It cannot, if its view is behind the second commit.
        rows += (("lock", 5, 0, 1),)
        same(self, who(rows, 6), (None, (), (3,), (3, 5)))

    def test_transactions_that_ended_too_early(self):
        rows = TWO_COMMITS[:4] + (("open", 3, None), ("change", 2, 0, 0, 0, 1, "b"), ("commit", 2))
        for end in (("commit", 3), ("abort", 3)):
            same(self, who(rows + (end, ("clean", 0, (), (0,))), 8), (None, (), (), (3, 6)))
            same(self, who(rows + (("clean", 0, (), (0,)), end), 7), (None, (3,), (), (3, 6)))
        # The end of a transaction, not of an inner one.
        rows = rows[:5] + (("open", 4, 3),) + rows[5:] + (("commit", 4), ("clean", 0, (), (0,)))
        same(self, who(rows, 9), (None, (3,), (), (3, 7)))

    def test_a_fall_between(self):
        # Whoever began ahead of it is gone, and whoever began behind it has a greater view.
        rows = TWO_COMMITS + (("fall",), ("clean", 0, (), (0,)), ("open", 3, None))
        same(self, [who(rows, 7), list(open_spans(rows))], [(None, (), (), None), [(7, 5)]])
        # A prepared one goes on.
        rows = TWO_COMMITS[:3] + (("open", 2, None), ("prepare", 2, 3), ("open", 3, None), ("strike", 3, 0, 0),
                                  ("commit", 3), ("fall",), ("clean", 0, (), (0,)))
        same(self, [who(rows, 9), list(open_spans(rows))], [(None, (2,), (), None), []])

    def test_unseen_readers_at_the_bounds(self):
        rows = TWO_COMMITS + (("open", 3, None), ("put", 3, 0, 2, "m", "x"), ("commit", 3))
        # The floor of the row itself counts, and that of a row before it on another page, too.
        same(self, who(rows + (("clean", 0, (), (0,)),), 9), (None, (), (), (3, 5)))
        rows = TWO_COMMITS + (("clean", 0, (), (0,)), ("clean", 0, (), ()))
        same(self, [who(rows, 6), who(rows, 7)], [(None, (), (), (3, 5))] * 2)
        # A greater floor before it: nobody can hold it.
        rows = (("open", 1, None),) + tuple(("put", 1, 0, slot, key, "v") for slot, key in enumerate("abcdefgh"))
        rows += (("put", 1, 1, 0, "i", "v"), ("commit", 1), ("open", 2, None), ("strike", 2, 0, 0), ("commit", 2),
                 ("open", 3, None), ("strike", 3, 1, 0), ("commit", 3))
        rows += (("clean", 1, (0,), ()), ("clean", 0, (), tuple(range(8))))
        same(self, [heights(rows)[17:], who(rows, 18), list(open_spans(rows))],
             [(16, 16, 16), (None, (), (), None), [(18, 13)]])
        rows = rows[:17] + (("clean", 1, (), (0,)), ("clean", 0, (), tuple(range(8))))
        same(self, [who(rows, 17), who(rows, 18)], [(None, (), (), (11, 16)), (None, (), (), (11, 13))])

    def test_a_reader_with_one_view_only(self):
        rows = TWO_COMMITS[:3] + (("open", 2, None), ("strike", 2, 0, 0), ("open", 3, None), ("commit", 3), ("commit", 2),
                                  ("open", 4, None), ("put", 4, 0, 1, "k", "b"), ("commit", 4), ("clean", 0, (), (0,)))
        same(self, who(rows, 11), (None, (), (), (3, 7)))
        rows = TWO_COMMITS[:5] + (("fall",), ("open", 3, None), ("strike", 3, 0, 0), ("commit", 3), ("clean", 0, (1,), (0,)))
        same(self, who(rows, 9), (None, (), (), (6, 8)))

    def test_each_index_that_is_no_span(self):
        rows = ROWS + (("clean", 0, (0,), (1,)), ("fall",), ("tidy", 0, (1,)))[:2]
        for value in ODD_VALUES + (0, 1, 2, 3, 4, 5, 7, 8, 9, 400, -3, "6", (6,), [6]):
            self.assertIs(raised(self, NotSpan, who, rows, value).row, value)
        rows = TWO_COMMITS + (("tidy", 0, (0,)),)
        self.assertEqual(raised(self, NotSpan, who, rows, 6).row, 6)
        self.assertEqual(raised(self, NotSpan, who, (), 0).row, 0)

    def test_generators_by_turns(self):
        rows = ROWS + (("clean", 0, (), ()),)
        one, other = open_spans(rows), open_spans(rows)
        same(self, [next(one), next(other), list(one), list(other)], [(6, 5), (6, 5), [(7, 5)], [(7, 5)]])


class LogErrorsTest(unittest.TestCase):
    ASK = (lambda rows: word_at(rows, 0), lambda rows: who(rows, None), lambda rows: who(rows, 6),
           lambda rows: next(open_spans(rows)), lambda rows: list(open_spans(rows)))

    def test_rows_that_are_not_valid(self):
        for ask in self.ASK:
            for at in (0, 3, 7):
                for value in ODD_VALUES + (("sweep",), ["fall"]):
                    self.assertEqual(raised(self, InvalidRow, ask, ROWS[:at] + (value,) + ROWS[at:]).index, at)

    def test_what_is_no_tuple(self):
        for ask in self.ASK:
            for value in ODD_VALUES + (list(ROWS),):
                if not isinstance(value, tuple):
                    self.assertEqual(raised(self, InvalidRow, ask, value).index, 0)


class RandomTest(unittest.TestCase):
    def test_by_all_views(self):
        counts = {"words": 0, "sure": 0, "possible": 0, "readers": 0, "nobody": 0, "spans": 0}
        for seed in range(120):
            rows = Driver(random.Random(seed), weights={"hear": 2, "tidy": 5}).drive(50).store.log
            evidence = Evidence(rows)
            for row in range(len(rows) + 1):
                same(self, word_at(rows, row), evidence.pasts[row].word())
            for row, ceiling in evidence.spans():
                told = who(rows, row)
                same(self, told, evidence.who(row))
                counts["spans"] += 1
                counts["words"] += told[0] is not None
                counts["sure"] += len(told[1])
                counts["possible"] += len(told[2])
                counts["readers" if told[3] else "nobody"] += 1
            same(self, list(open_spans(rows)), evidence.open_spans())
        self.assertGreater(min(counts.values()), 20, counts)

    def test_a_log_as_long_as_it_may_be(self):
        driver = Driver(random.Random(5), weights={"begin": 1, "fall": 0.1})
        while len(driver.store.log) < 400 and driver.store.state.next_number() <= 60:
            driver.step()
        rows = driver.store.log[:400]
        self.assertGreater(len(rows), 100)
        self.assertGreaterEqual(len(list(open_spans(rows))), 0)
