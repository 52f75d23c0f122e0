import random
import unittest

from crowds import any_log, crowd, longer
from driving import Driver
from samples import ODD_VALUES, TWO_COMMITS, puts, raised, same
from showing import Showing
from whoheld.barcheck import shows_bar
from whoheld.bars import bar
from whoheld.errors import InvalidRow

# A commit behind the open row of 2.
LATE = (("open", 1, None), ("put", 1, 0, 0, "k", "a"), ("open", 2, None), ("commit", 1))
# Nine versions on two pages; two commits end one of each.
TWO_PAGES = (
    ("open", 1, None), *puts(1, 0, list("abcdefghi")), ("commit", 1), ("open", 2, None), ("strike", 2, 0, 0), ("commit", 2),
    ("open", 3, None), ("strike", 3, 1, 0), ("commit", 3),
)
KEPT = ("clean", 0, (), tuple(range(8)))


class BarCase(unittest.TestCase):
    def check(self, rows, *bars):
        """Exactly these bars are there, and one of them is returned."""
        self.assertEqual(Showing(rows).bars(), set(bars))
        told = bar(rows)
        if not bars:
            self.assertIsNone(told)
        else:
            same(self, told, [other for other in bars if other == told][0])
        for other in bars:
            self.assertIs(shows_bar(rows, other), True)
        same(self, bar(rows=rows), told)


class RangeTest(BarCase):
    def test_no_rows(self):
        self.check(())
        self.check(TWO_COMMITS)

    def test_rows_that_touch_and_the_open_row(self):
        for row in (("change", 2, 0, 0, 0, 1, "b"), ("strike", 2, 0, 0), ("lock", 2, 0, 0)):
            self.check(LATE + (row,), ("range", 2, 4, 2))
            # A transaction that began behind the commit.
            self.check(LATE[:2] + (LATE[3], LATE[2], row))
        rows = LATE + (("open", 3, None), ("strike", 3, 0, 0), ("commit", 3), ("refused", 2, 0, 0))
        self.check(rows, ("range", 2, 7, 2))

    def test_rows_of_inner_ones_and_of_aborted_ones(self):
        rows = LATE + (("open", 3, 2), ("lock", 3, 0, 0))
        self.check(rows, ("range", 2, 5, 2))
        self.check(rows + (("abort", 3),), ("range", 2, 5, 2))
        self.check(rows + (("abort", 3), ("abort", 2)), ("range", 2, 5, 2))
        self.check(rows + (("fall",),), ("range", 2, 5, 2))

    def test_versions_of_the_own_family(self):
        self.check((("open", 1, None), ("put", 1, 0, 0, "a", "x"), ("open", 2, 1), ("change", 2, 0, 0, 0, 1, "y"),
                    ("commit", 2), ("strike", 1, 0, 1)))

    def test_cleanings_and_the_open_row(self):
        self.check(LATE + (("clean", 0, (), (0,)),), ("range", 2, 4, 2))
        self.check(LATE + (("clean", 0, (), ()),))
        # Behind the end it binds nobody; the index of the end itself is not before it.
        for end in (("commit", 2), ("abort", 2), ("fall",)):
            self.check(LATE + (end, ("clean", 0, (), (0,))))
            self.check(LATE + (("clean", 0, (), (0,)), end), ("range", 2, 4, 2))
        rows = (("open", 1, None), ("put", 1, 0, 0, "k", "a"), ("commit", 1), ("open", 2, None), ("open", 3, None),
                ("strike", 3, 0, 0), ("commit", 3))
        self.check(rows + (("tidy", 0, (0,)),), ("range", 2, 7, 3))
        self.check(rows + (("commit", 2), ("tidy", 0, (0,))))

    def test_falls(self):
        # A fall behind the open row of a prepared one does not bind it, one ahead of it does.
        self.check((("fall",), ("open", 1, None), ("prepare", 1, 0)), ("range", 1, 0, 2))
        self.check((("fall",), ("open", 1, None), ("prepare", 1, 1)))
        self.check((("open", 1, None), ("prepare", 1, 0), ("fall",), ("commit", 1)))
        rows = TWO_COMMITS[:3] + (("open", 2, None), ("strike", 2, 0, 0), ("commit", 2), ("fall",), ("open", 3, None),
                                  ("refused", 3, 0, 0))
        self.check(rows, ("range", 3, 6, 8))

    def test_prepare_rows_and_refused_rows(self):
        rows = TWO_COMMITS + (("open", 3, None), ("refused", 3, 0, 0))
        self.check(rows)
        self.check(rows + (("prepare", 3, 6),), ("range", 3, 8, 7))
        self.check(rows + (("prepare", 3, 5),))
        self.check(rows + (("prepare", 3, 3),))
        # The number for low that the refused row shows is 3.
        self.check(rows + (("prepare", 3, 2),), ("range", 3, 7, 8))

    def test_rows_that_touch_and_refused_or_prepare_rows(self):
        rows = TWO_COMMITS + (("open", 3, None),)
        self.check(rows + (("refused", 3, 0, 0), ("lock", 3, 0, 1)), ("range", 3, 8, 7))
        self.check(rows + (("lock", 3, 0, 1), ("refused", 3, 0, 0)), ("range", 3, 7, 8))
        for row in (("lock", 3, 0, 1), ("strike", 3, 0, 1), ("change", 3, 0, 1, 0, 2, "c")):
            self.check(rows + (row, ("prepare", 3, 5)), ("range", 3, 7, 8))
            self.check(rows + (row, ("prepare", 3, 6)))

    def test_cleanings_and_refused_rows(self):
        rows = TWO_COMMITS + (("open", 3, None), ("refused", 3, 0, 0))
        self.check(rows + (("clean", 0, (), (0,)),))
        self.check(rows + (("clean", 0, (0,), (1,)),), ("range", 3, 8, 7))
        self.check(rows + (("tidy", 0, (0,)),), ("range", 3, 8, 7))

    def test_cleanings_ahead_of_the_open_row_and_prepare_rows(self):
        behind = (("open", 3, None), ("prepare", 3, 5))
        self.check(TWO_COMMITS + (("clean", 0, (0,), (1,)),) + behind, ("range", 3, 6, 8))
        self.check(TWO_COMMITS + (("tidy", 0, (0,)),) + behind, ("range", 3, 6, 8))
        self.check(TWO_COMMITS + (("clean", 0, (), (0,)),) + behind)
        # Two rows show the same number.
        rows = TWO_COMMITS + (("tidy", 0, (0,)), ("clean", 0, (), (1,))) + behind
        self.check(rows, ("range", 3, 6, 9), ("range", 3, 7, 9))

    def test_several_transactions(self):
        rows = LATE + (("lock", 2, 0, 0), ("open", 3, None), ("prepare", 3, 0), ("clean", 0, (), (0,)))
        self.check(rows, ("range", 2, 4, 2), ("range", 2, 7, 2), ("range", 3, 7, 6))


class WordTest(BarCase):
    def test_words_at_the_floor(self):
        for word in range(7):
            rows = TWO_COMMITS + (("word", word), ("clean", 0, (), (0,)))
            self.check(rows, *([("word", 6, 7)] if word <= 2 else []))
            rows = TWO_COMMITS + (("word", word), ("clean", 0, (0,), (1,)))
            self.check(rows, *([("word", 6, 7)] if word <= 5 else []))

    def test_words_that_are_not_in_force(self):
        clean = ("clean", 0, (0,), (1,))
        self.check(TWO_COMMITS + (("word", 0), ("word", None), clean))
        self.check(TWO_COMMITS + (("word", 0), ("fall",), clean))
        self.check(TWO_COMMITS + (("word", 0), ("word", 6), clean))
        self.check(TWO_COMMITS + (clean, ("word", 0)))
        self.check(TWO_COMMITS + (("word", None), clean))
        self.check(TWO_COMMITS + (("word", 6), ("word", 0), clean), ("word", 7, 8))
        self.check(TWO_COMMITS + (("fall",), ("word", 0), clean), ("word", 7, 8))

    def test_the_last_word_row_is_told(self):
        rows = (("word", 0),) + TWO_COMMITS + (("word", 0),)
        self.check(rows + (("clean", 0, (0,), (1,)),), ("word", 7, 8))

    def test_tidy_rows_heed_no_word(self):
        self.check(TWO_COMMITS + (("word", 0), ("tidy", 0, (0,))))
        self.check(TWO_COMMITS + (("word", 0), ("tidy", 0, (0,)), ("clean", 0, (), (1,))), ("word", 6, 8))

    def test_cleanings_without_a_floor(self):
        self.check((("word", 0), ("clean", 0, (), ())))
        self.check(TWO_COMMITS + (("word", 0), ("clean", 0, (), ())))

    def test_several_cleanings(self):
        rows = TWO_COMMITS + (("word", 1), ("clean", 0, (), (0,)), ("clean", 0, (0,), (1,)))
        self.check(rows, ("word", 6, 7), ("word", 6, 8))


class SpanTest(BarCase):
    def test_falls(self):
        self.check(TWO_COMMITS + (("fall",), ("clean", 0, (), (0,))), ("span", 7, 6))
        self.check(TWO_COMMITS + (("clean", 0, (), (0,)), ("fall",)))
        # A fall ahead of the commit at which the version ended.
        self.check(TWO_COMMITS[:3] + (("fall",),) + TWO_COMMITS[3:] + (("clean", 0, (), (0,)),))
        # Two falls.
        self.check(TWO_COMMITS + (("fall",), ("fall",), ("clean", 0, (), (0,))), ("span", 8, 6), ("span", 8, 7))

    def test_floors_of_other_pages(self):
        for row in (("clean", 1, (0,), ()), ("tidy", 1, (0,))):
            self.check(TWO_PAGES + (row, KEPT), ("span", 18, 17))
            self.check(TWO_PAGES + (KEPT, row))
        self.check(TWO_PAGES + (("clean", 1, (), (0,)), KEPT))
        # A floor that is the ceiling itself: the commit of both.
        rows = (("open", 1, None), *puts(1, 0, list("abcdefghi")), ("commit", 1), ("open", 2, None), ("strike", 2, 0, 0),
                ("strike", 2, 1, 0), ("commit", 2))
        self.check(rows + (("clean", 1, (0,), ()), KEPT), ("span", 16, 15))

    def test_floors_of_the_same_page(self):
        # The tidy row removes what was ended later, and leaves what was ended earlier.
        rows = (("open", 1, None), *puts(1, 0, list("ab")), ("commit", 1), ("open", 2, None), ("strike", 2, 0, 0),
                ("commit", 2), ("open", 3, None), ("strike", 3, 0, 1), ("commit", 3), ("tidy", 0, (1,)))
        self.check(rows + (("clean", 0, (), (0,)),), ("span", 11, 10))

    def test_words_and_transactions_that_hold_the_span(self):
        # A tidy row does not heed a word: with it the span is not open.
        self.check(TWO_PAGES + (("word", 13), ("tidy", 1, (0,)), KEPT))
        self.check(TWO_PAGES + (("word", 14), ("tidy", 1, (0,)), KEPT), ("span", 19, 18))
        # A prepared one goes on through a fall.
        rows = TWO_COMMITS[:3] + (("open", 2, None), ("prepare", 2, 3), ("open", 3, None), ("strike", 3, 0, 0),
                                  ("commit", 3), ("fall",), ("clean", 0, (), (0,)))
        self.check(rows)
        self.check(rows[:8] + (("commit", 2),) + rows[8:], ("span", 10, 9))
        # One whose open row is behind the fall has a view behind it.
        self.check(TWO_COMMITS + (("fall",), ("open", 3, None), ("clean", 0, (), (0,))), ("span", 8, 6))

    def test_several_rows_that_show_it(self):
        rows = TWO_PAGES + (("tidy", 1, (0,)), ("fall",), KEPT)
        self.check(rows, ("span", 19, 17), ("span", 19, 18))


class LogsTest(BarCase):
    def test_kinds_of_bars_at_once(self):
        rows = (("fall",), ("open", 1, None), ("put", 1, 0, 0, "k", "a"), ("commit", 1), ("word", 2), ("clean", 0, (), (0,)),
                ("open", 2, None), ("strike", 2, 0, 0), ("commit", 2), ("fall",), ("clean", 0, (), ()), ("open", 3, None),
                ("prepare", 3, 1))
        self.check(rows, ("word", 4, 5), ("span", 10, 9), ("range", 3, 5, 12), ("range", 3, 9, 12))

    def test_rows_that_are_not_valid(self):
        for at in range(len(LATE) + 1):
            for value in ODD_VALUES + (("sweep",), ["fall"]):
                self.assertEqual(raised(self, InvalidRow, bar, LATE[:at] + (value,) + LATE[at:]).index, at)
        for value in ODD_VALUES + (list(LATE),):
            if not isinstance(value, tuple):
                self.assertEqual(raised(self, InvalidRow, bar, value).index, 0)
        # That is told ahead of a bar.
        rows = LATE + (("lock", 2, 0, 0), ("sweep",))
        self.assertEqual(raised(self, InvalidRow, bar, rows).index, 5)

    def test_stores_are_not_barred(self):
        for seed in range(60):
            self.assertIsNone(bar(Driver(random.Random(seed)).drive(80).store.log))
        for seed in range(30):
            self.assertIsNone(bar(crowd(seed, 120).store.log))

    def test_logs_at_random(self):
        counts = {None: 0, "range": 0, "word": 0, "span": 0}
        for seed in range(150):
            rng = random.Random(seed)
            rows = any_log(rng, rng.randrange(8, 45))
            showing = Showing(rows)
            told = bar(rows)
            self.assertIs(told is not None, showing.barred_by_views())
            self.assertTrue(told in showing.bars() if told else not showing.bars())
            same(self, bar(rows), told)
            for kind in {other[0] for other in showing.bars()} or {None}:
                counts[kind] += 1
        self.assertGreater(min(counts.values()), 5, counts)

    def test_longer_logs_behind_a_barred_beginning(self):
        beginnings = [LATE + (("lock", 2, 0, 0),), TWO_COMMITS + (("word", 2), ("clean", 0, (), (0,))),
                      TWO_COMMITS + (("fall",), ("clean", 0, (), (0,))), TWO_PAGES + (("tidy", 1, (0,)), KEPT),
                      LATE + (("clean", 0, (), (0,)),)]
        for seed in range(12):
            for beginning in beginnings:
                rows = longer(random.Random(seed), beginning, 12)
                for length in range(len(beginning), len(rows) + 1):
                    self.assertIs(shows_bar(rows[:length], bar(beginning)), True)
                    self.assertIs(shows_bar(rows[:length], bar(rows[:length])), True)
        for seed in range(40):
            rows = any_log(random.Random(seed), 40)
            told = [bar(rows[:length]) for length in range(41)]
            for length, found in enumerate(told):
                if found is not None:
                    self.assertNotIn(None, told[length:])
                    self.assertIs(shows_bar(rows, found), True)
