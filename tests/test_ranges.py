import random
import unittest

from driving import Driver
from naive import Evidence
from samples import ODD_NUMBERS, ODD_VALUES, TWO_COMMITS, puts, raised, same
from whoheld.errors import InvalidRow, NoTransaction
from whoheld.ranges import end_of, range_of, ranges

TOUCHES = {"change": ("change", 2, 0, 0, 0, 1, "y"), "strike": ("strike", 2, 0, 0), "lock": ("lock", 2, 0, 0)}
MADE = TWO_COMMITS[:3]


class RangeTest(unittest.TestCase):
    def test_nothing_but_the_open_row(self):
        same(self, [range_of((("open", 1, None),), 1), range_of((("word", 0), ("open", 1, None)), 1)], [(0, 0), (0, 1)])
        rows = MADE + (("open", 2, None), ("put", 2, 0, 1, "m", "x"), ("commit", 2))
        same(self, range_of(rows=rows, number=2), (0, 3))

    def test_versions_that_are_touched(self):
        for row in TOUCHES.values():
            rows = MADE + (("word", None), ("open", 2, None))
            same(self, [range_of(rows, 2), range_of(rows + (row,), 2)], [(0, 4), (3, 4)])

    def test_the_latest_maker_of_several(self):
        rows = (("open", 1, None), ("put", 1, 0, 0, "a", "x"), ("commit", 1), ("open", 2, None), ("put", 2, 0, 1, "b", "x"),
                ("commit", 2), ("open", 3, None), ("lock", 3, 0, 1), ("lock", 3, 0, 0))
        same(self, [range_of(rows[:count], 3) for count in (7, 8, 9)], [(0, 6), (6, 6), (6, 6)])
        rows = rows[:7] + (("lock", 3, 0, 0),)
        same(self, range_of(rows, 3), (3, 6))

    def test_own_versions_do_not_count(self):
        rows = (("word", 0), ("open", 1, None), ("put", 1, 0, 0, "a", "x"), ("change", 1, 0, 0, 0, 1, "y"),
                ("open", 2, 1), ("strike", 2, 0, 1), ("commit", 2), ("commit", 1))
        same(self, range_of(rows, 1), (0, 1))

    def test_a_version_that_is_refused(self):
        rows = TWO_COMMITS + (("word", None), ("open", 3, None))
        same(self, [range_of(rows, 3), range_of(rows + (("refused", 3, 0, 0),), 3)], [(0, 7), (3, 5)])

    def test_the_least_of_several_refused_ones(self):
        rows = (("open", 1, None), *puts(1, 0, list("ab")), ("commit", 1), ("open", 2, None), ("strike", 2, 0, 0),
                ("commit", 2), ("open", 3, None), ("strike", 3, 0, 1), ("commit", 3), ("open", 4, None))
        same(self, [range_of(rows + more, 4) for more in (
            (), (("refused", 4, 0, 1),), (("refused", 4, 0, 0),), (("refused", 4, 0, 1), ("refused", 4, 0, 0)))],
             [(0, 10), (4, 9), (4, 6), (4, 6)])

    def test_inner_ones_that_touch(self):
        rows = TWO_COMMITS + (("open", 3, None), ("open", 4, 3), ("refused", 4, 0, 0))
        same(self, range_of(rows, 3), (3, 5))
        # Aborted ones, too.
        for end in (("abort", 4), ("commit", 4)):
            same(self, [range_of(rows + (end,), 3), range_of(rows + (end, ("abort", 3)), 3)], [(3, 5)] * 2)
        rows = MADE + (("open", 2, None), ("open", 3, 2), ("lock", 3, 0, 0), ("abort", 3))
        same(self, range_of(rows, 2), (3, 3))

    def test_falls_before_the_open_row_and_behind_it(self):
        rows = (("word", None), ("fall",), ("word", None), ("open", 1, None))
        same(self, [range_of(rows, 1), range_of(rows + (("fall",),), 1)], [(2, 3), (2, 3)])
        same(self, range_of((("fall",), ("fall",), ("word", None), ("open", 1, None)), 1), (2, 3))

    def test_cleanings_while_it_lasts(self):
        rows = TWO_COMMITS + (("open", 3, None), ("clean", 0, (), (0,)), ("clean", 0, (0,), (1,)), ("commit", 3))
        same(self, [range_of(rows[:count], 3) for count in (7, 8, 9, 10)], [(0, 6), (3, 6), (6, 6), (6, 6)])

    def test_cleanings_ahead_of_the_open_row(self):
        rows = TWO_COMMITS + (("clean", 0, (), (0,)), ("open", 3, None))
        same(self, range_of(rows, 3), (3, 7))
        rows = TWO_COMMITS + (("clean", 0, (0,), (1,)), ("open", 3, None))
        same(self, range_of(rows, 3), (6, 7))

    def test_cleanings_behind_the_end(self):
        for end in (("commit", 3), ("abort", 3), ("fall",)):
            rows = TWO_COMMITS + (("open", 3, None), end, ("clean", 0, (0,), (1,)))
            same(self, range_of(rows, 3), (0, 6))
        # The end is that of the outer one.
        rows = TWO_COMMITS + (("open", 3, None), ("open", 4, 3), ("commit", 4), ("clean", 0, (0,), (1,)))
        same(self, range_of(rows, 3), (6, 6))

    def test_tidy_rows(self):
        rows = TWO_COMMITS + (("open", 3, None), ("tidy", 0, (0,)))
        same(self, range_of(rows, 3), (6, 6))
        rows = TWO_COMMITS[:5] + (("abort", 2), ("open", 3, None), ("tidy", 0, (1,)))
        same(self, range_of(rows, 3), (0, 6))

    def test_prepared_ones(self):
        rows = (("word", None), ("word", None), ("open", 1, None))
        for view in range(3):
            same(self, range_of(rows + (("prepare", 1, view),), 1), (view, view))
        # Until it is settled, cleanings bind it, also behind a fall.
        rows = TWO_COMMITS + (("open", 3, None), ("prepare", 3, 2), ("fall",), ("clean", 0, (), (0,)), ("commit", 3))
        same(self, [range_of(rows, 3), range_of(rows[:9], 3)], [(3, 2), (2, 2)])

    def test_a_low_that_is_greater_than_the_high(self):
        rows = TWO_COMMITS + (("open", 3, None), ("refused", 3, 0, 0), ("clean", 0, (0,), (1,)))
        same(self, range_of(rows, 3), (6, 5))
        rows = TWO_COMMITS[:2] + (("open", 2, None), ("commit", 1), ("lock", 2, 0, 0))
        same(self, range_of(rows, 2), (4, 2))

    def test_all_of_them(self):
        rows = TWO_COMMITS + (("open", 3, None), ("open", 4, 3), ("refused", 4, 0, 0))
        same(self, [list(ranges(rows)), list(ranges(rows=())), list(ranges((("fall",),)))],
             [[(1, 0, 0), (2, 3, 3), (3, 3, 5)], [], []])
        one, other = ranges(rows), ranges(rows)
        same(self, [next(one), next(other), next(one), len(list(one)), len(list(other))], [(1, 0, 0), (1, 0, 0), (2, 3, 3), 1, 2])

    def test_what_is_no_transaction(self):
        rows = TWO_COMMITS + (("open", 3, None), ("open", 4, 3))
        for ask in (range_of, end_of):
            for value in ODD_NUMBERS + (4, 5, 999999):
                self.assertIs(raised(self, NoTransaction, ask, rows, value).number, value)
            self.assertEqual(raised(self, NoTransaction, ask, (), 1).number, 1)


class EndTest(unittest.TestCase):
    def test_ends(self):
        rows = (("open", 1, None), ("open", 2, None), ("open", 3, None), ("commit", 1), ("abort", 2), ("open", 4, None),
                ("prepare", 4, 2), ("open", 5, 3), ("commit", 5), ("fall",), ("open", 6, None), ("commit", 4), ("word", 0))
        same(self, [end_of(rows, number) for number in (1, 2, 3, 4, 6)], [3, 4, 9, 11, 13])
        same(self, [end_of(rows=rows[:9], number=number) for number in (1, 2, 3, 4)], [3, 4, 9, 9])


class LogErrorsTest(unittest.TestCase):
    ASK = (lambda rows: range_of(rows, None), lambda rows: end_of(rows, 1), lambda rows: next(ranges(rows)),
           lambda rows: list(ranges(rows)))

    def test_rows_that_are_not_valid(self):
        for ask in self.ASK:
            for at in (0, 3, 6):
                for value in ODD_VALUES + (("sweep",), ["fall"]):
                    self.assertEqual(raised(self, InvalidRow, ask, TWO_COMMITS[:at] + (value,) + TWO_COMMITS[at:]).index, at)

    def test_what_is_no_tuple(self):
        for ask in self.ASK:
            for value in ODD_VALUES + (list(TWO_COMMITS),):
                if not isinstance(value, tuple):
                    self.assertEqual(raised(self, InvalidRow, ask, value).index, 0)


class RandomTest(unittest.TestCase):
    def test_by_all_views(self):
        widths = {}
        for seed in range(80):
            rows = Driver(random.Random(seed)).drive(50).store.log
            evidence = Evidence(rows)
            found = list(ranges(rows))
            self.assertEqual([number for number, _, _ in found], evidence.outers)
            for number, low, high in found:
                same(self, list(range(low, high + 1)), evidence.views[number])
                same(self, range_of(rows, number), (low, high))
                same(self, end_of(rows, number), evidence.end(number))
                widths[high - low] = widths.get(high - low, 0) + 1
        self.assertGreater(len(widths), 8, widths)
