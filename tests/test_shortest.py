import random
import unittest

from chains import CROSSED, EXAMPLE, chain, spread
from crowds import any_log, crowd
from samples import ODD_VALUES, TWO_COMMITS, raised, same
from showing import Showing
from whoheld.bars import bar
from whoheld.errors import Barred, InvalidRow, TooFew
from whoheld.explaining import explains
from whoheld.fewest import fewest_readers, paper
from whoheld.holders import open_spans
from whoheld.shortcheck import holds, shows_shortest
from whoheld.shortest import least_length, main_spans, shortest

ROWS = TWO_COMMITS + (("clean", 0, (), (0,)),)


class ShortestCase(unittest.TestCase):
    def check(self, rows, showing=None):
        """For each count the table, the stays and the length are right."""
        showing = showing or Showing(rows)
        same(self, [list(main_spans(rows)), list(main_spans(rows=rows))], [showing.main] * 2)
        least = fewest_readers(rows)
        for count in range(least):
            for function in (least_length, shortest):
                self.assertEqual(raised(self, TooFew, function, rows, count).least, least)
        for count in (least, least + 1, least + 2, 20):
            length, stays, table = shortest(rows, count)
            same(self, [shortest(rows=rows, count=count), least_length(rows=rows, count=count)],
                 [(length, stays, table), least_length(rows, count)])
            same(self, table, showing.table(count))
            same(self, [length, length], [least_length(rows, count), table[-1][-1]])
            self.assertTrue(type(stays) is tuple and len(stays) <= count)
            self.assertEqual(sum(end - view for view, end in stays), length)
            self.assertEqual(stays, tuple(sorted(set(stays))))
            self.assertTrue(explains(rows, paper(rows)[1], stays))
            self.assertTrue(holds(rows, count, table) and shows_shortest(rows, count, (length, stays, table)))


class ShortestTest(ShortestCase):
    def test_no_spans(self):
        for rows in ((), TWO_COMMITS, ROWS + (("open", 3, None),)):
            self.check(rows)
            same(self, shortest(rows, 0), (0, (), ((0,),)))
            same(self, shortest(rows, 2), (0, (), ((0,), (0,), (0,))))

    def test_one_span(self):
        self.check(ROWS)
        same(self, shortest(ROWS, 1), (2, ((5, 7),), ((0, None), (0, 2))))
        same(self, shortest(ROWS, 3), (2, ((5, 7),), ((0, None), (0, 2), (0, 2), (0, 2))))

    def test_the_example_of_two_readers(self):
        self.check(EXAMPLE)
        same(self, shortest(EXAMPLE, 2), (4, ((5, 7), (9, 11)), ((0, None, None), (0, 2, None), (0, 2, 4))))
        same(self, [raised(self, TooFew, shortest, EXAMPLE, count).least for count in (0, 1)], [2, 2])

    def test_chains(self):
        for count in range(1, 9):
            rows = chain(count)
            self.check(rows)
            same(self, shortest(rows, count)[:2],
                 (2 * count, tuple((row - 1, row + 1) for row, _ in open_spans(rows))))

    def test_one_reader_or_two(self):
        rows = spread((9,))
        same(self, list(main_spans(rows)), [(46, 45), (60, 59)])
        self.check(rows)
        same(self, [shortest(rows, 1)[:2], shortest(rows, 2)[:2]], [(16, ((45, 61),)), (4, ((45, 47), (59, 61)))])
        same(self, shortest(rows, 2)[2], ((0, None, None), (0, 2, 16), (0, 2, 4)))
        # A reader more than there are main spans makes nothing shorter.
        same(self, [shortest(rows, 3)[:2], shortest(rows, 20)[:2]], [shortest(rows, 2)[:2]] * 2)

    def test_where_to_cut(self):
        for gaps in ((9, 2, 5), (2, 9, 5), (5, 5, 5), (0, 0), (1, 12, 0, 12), (12, 1, 12, 0)):
            rows = spread(gaps)
            self.check(rows)
            # Each cut leaves out a gap and the three rows behind it.
            saved = sorted([gap + 3 for gap in gaps], reverse=True)
            for count in range(1, 7):
                self.assertEqual(least_length(rows, count), sum(saved[count - 1:]) + 2 * len(gaps) + 2)

    def test_main_spans_contain_others(self):
        same(self, list(main_spans(CROSSED)), [(22, 14)])
        self.check(CROSSED)
        rows = CROSSED[:21] + (CROSSED[22], CROSSED[21])
        same(self, [list(open_spans(rows)), list(main_spans(rows))], [[(21, 14), (22, 17)]] * 2)
        self.check(rows)
        same(self, [shortest(rows, 1), shortest(rows, 2)[:2]],
             [(9, ((14, 23),), ((0, None, None), (0, 8, 9))), (9, ((14, 23),))])
        # The same ceiling twice: the later one is a main span.
        rows = ROWS + (("clean", 0, (), ()), ("clean", 0, (), ()))
        same(self, [list(open_spans(rows)), list(main_spans(rows))], [[(6, 5), (7, 5), (8, 5)], [(8, 5)]])
        self.check(rows)

    def test_counts(self):
        for count in range(21):
            same(self, len(shortest(ROWS, max(count, 1))[2]), max(count, 1) + 1)
        self.assertEqual(raised(self, TooFew, least_length, ROWS, 0).least, 1)


class ErrorsTest(unittest.TestCase):
    def test_barred_logs(self):
        seen = 0
        for seed in range(80):
            rows = any_log(random.Random(seed), 30)
            told = bar(rows)
            same(self, list(main_spans(rows)), Showing(rows).main)
            # Ahead of TooFew.
            for count in (0, 1, 20) if told is not None else ():
                same(self, raised(self, Barred, least_length, rows, count).bar, told)
                same(self, raised(self, Barred, shortest, rows, count).bar, told)
                seen += 1
        self.assertGreater(seen, 50)
        rows = TWO_COMMITS + (("fall",), ("clean", 0, (), (0,)))
        same(self, [list(main_spans(rows)), raised(self, Barred, shortest, rows, 0).bar], [[(7, 5)], ("span", 7, 6)])

    def test_rows_that_are_not_valid(self):
        for ask in (lambda rows: least_length(rows, 0), lambda rows: shortest(rows, 0), lambda rows: next(main_spans(rows)),
                    lambda rows: list(main_spans(rows))):
            for at in (0, 4, 7):
                for value in ODD_VALUES + (("sweep",), ["fall"]):
                    self.assertEqual(raised(self, InvalidRow, ask, ROWS[:at] + (value,) + ROWS[at:]).index, at)
            for value in ODD_VALUES + (list(ROWS),):
                if not isinstance(value, tuple):
                    self.assertEqual(raised(self, InvalidRow, ask, value).index, 0)
            rows = TWO_COMMITS + (("word", 0), ("clean", 0, (), (0,)), ("sweep",))
            self.assertEqual(raised(self, InvalidRow, ask, rows).index, 8)

    def test_generators_by_turns(self):
        rows = CROSSED[:21] + (CROSSED[22], CROSSED[21])
        one, other = main_spans(rows), main_spans(rows)
        same(self, [next(one), next(other), list(one), list(other)], [(21, 14), (21, 14), [(22, 17)], [(22, 17)]])


class RandomTest(ShortestCase):
    def test_all_ways_to_cut(self):
        seen = 0
        for seed in range(110):
            rows = crowd(seed, 90, begin=2, commit=24, reader=14, close=12).store.log
            if len(list(open_spans(rows))) < 2:
                continue
            showing = Showing(rows)
            self.check(rows, showing)
            if len(showing.open) <= 7:
                sums = showing.sums_of_lengths()
                for count in range(min(sums), min(sums) + 3):
                    best = min(total for readers, total in sums.items() if readers <= count)
                    self.assertEqual(least_length(rows, count), best)
                    seen += 1
        self.assertGreater(seen, 60)
