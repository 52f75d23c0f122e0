import random
import unittest

from chains import CROSSED, EXAMPLE, STAYS, VIEWS, chain
from crowds import any_log, crowd
from samples import ODD_VALUES, TWO_COMMITS, raised, same
from showing import Showing
from whoheld.apartness import are_apart, is_apart, shows_readers
from whoheld.bars import bar
from whoheld.errors import InvalidRow
from whoheld.fewest import apart, paper

PAPER = ("readers", VIEWS, STAYS, (6, 10))
ODD = ODD_VALUES + (True, False, "6", "10", (6,), [6], {6: 10}, {10: 6}, 10 ** 59, -6)


class AreApartTest(unittest.TestCase):
    def test_the_example(self):
        same(self, are_apart(EXAMPLE, 6, 10), True)
        same(self, are_apart(rows=EXAMPLE, row=6, other=10), True)

    def test_every_pair_of_indexes(self):
        for rows in (EXAMPLE, CROSSED, chain(4)):
            showing = Showing(rows)
            for row in range(-2, len(rows) + 2):
                for other in range(-2, len(rows) + 2):
                    same(self, are_apart(rows, row, other), showing.are_apart(row, other))

    def test_equal_rows_and_rows_the_other_way_round(self):
        same(self, [are_apart(EXAMPLE, 6, 6), are_apart(EXAMPLE, 10, 10), are_apart(EXAMPLE, 10, 6)], [False] * 3)

    def test_spans_that_are_not_open(self):
        rows = EXAMPLE[:6] + (("word", 5),) + EXAMPLE[6:]
        same(self, are_apart(rows, 7, 11), False)
        rows = EXAMPLE + (("open", 4, None), ("refused", 4, 0, 1))
        same(self, are_apart(rows, 6, 10), False)

    def test_spans_that_one_reader_holds(self):
        same(self, are_apart(CROSSED, 21, 22), False)
        rows = CROSSED + (("clean", 1, (0,), ()),)
        # The floor of the last one is 14: it is less than the ceiling 17.
        same(self, [are_apart(rows, *pair) for pair in ((21, 22), (21, 23), (22, 23))], [False, False, True])

    def test_barred_logs(self):
        # The fall bars both spans; neither is apart from itself, nor from the one before it.
        rows = TWO_COMMITS + (("fall",), ("clean", 0, (), (0,)), ("clean", 0, (), ()))
        same(self, [are_apart(rows, *pair) for pair in ((7, 8), (8, 7), (7, 7), (8, 8))], [True, False, False, False])
        same(self, [is_apart(rows, value) for value in ((7, 8), (8, 7), (7, 7), (7,))], [True, False, False, True])
        for seed in range(40):
            rows = any_log(random.Random(seed), 35)
            showing = Showing(rows)
            for row, _ in showing.open:
                for other, _ in showing.open:
                    same(self, are_apart(rows, row, other), showing.are_apart(row, other))

    def test_any_values(self):
        for value in ODD:
            same(self, [are_apart(EXAMPLE, value, 10), are_apart(EXAMPLE, 6, value), are_apart(EXAMPLE, value, value)],
                 [False] * 3)
        # True and False are no rows.
        rows = (("clean", 0, (), ()), ("clean", 0, (), ()))
        same(self, are_apart(rows, False, True), False)


class IsApartTest(unittest.TestCase):
    def test_the_example(self):
        for value in ((), (6,), (10,), (6, 10)):
            same(self, is_apart(EXAMPLE, value), True)
        same(self, is_apart(rows=EXAMPLE, value=(6, 10)), True)

    def test_tuples_that_do_not_ascend(self):
        for value in ((10, 6), (6, 6), (6, 10, 10), (6, 10, 6), (10, 10)):
            same(self, is_apart(EXAMPLE, value), False)

    def test_rows_of_no_open_spans(self):
        for row in range(-1, 12):
            same(self, is_apart(EXAMPLE, (row,)), row in (6, 10))
            same(self, is_apart(EXAMPLE, (row, 10)), row == 6)

    def test_any_two_of_them(self):
        rows = CROSSED + (("clean", 1, (0,), ()),)
        for value, told in (((21, 22), False), ((21, 23), False), ((22, 23), True), ((21, 22, 23), False)):
            same(self, is_apart(rows, value), told)
        rows = chain(5)
        same(self, [is_apart(rows, apart(rows)), is_apart(rows, apart(rows)[::2]), is_apart(rows, apart(rows)[1:])],
             [True] * 3)

    def test_any_values(self):
        for value in ODD:
            same(self, is_apart(EXAMPLE, value), value in ((), (6,)))
            same(self, is_apart(EXAMPLE, (value,)), False)
            same(self, is_apart(EXAMPLE, (6, value)), False)
        same(self, [is_apart(EXAMPLE, [6, 10]), is_apart(EXAMPLE, {6: 10}), is_apart((), ())], [False, False, True])

    def test_at_random(self):
        counts = {True: 0, False: 0}
        for seed in range(60):
            rng = random.Random(seed)
            showing = Showing(crowd(seed, 80, begin=2, commit=24, reader=14, close=12).store.log)
            rows = [q for q, _ in showing.open] or [0]
            for _ in range(20):
                value = tuple(sorted(rng.choices(rows, k=rng.randrange(1, 4))))
                told = all(value[at] in rows and (at == 0 or showing.are_apart(value[at - 1], value[at]))
                           for at in range(len(value))) and bool(showing.open)
                told = told and all(showing.are_apart(one, other) for one, other in zip(value, value[2:]))
                same(self, is_apart(showing.rows, value), told)
                counts[told] += len(value) > 1
        self.assertGreater(min(counts.values()), 10, counts)


class ShowsReadersTest(unittest.TestCase):
    def test_the_example(self):
        same(self, [shows_readers(EXAMPLE, PAPER), shows_readers(rows=EXAMPLE, value=PAPER)], [True, True])
        same(self, shows_readers((), ("readers", (), (), ())), True)

    def test_one_thing_changed(self):
        for value in (
            ("reader",) + PAPER[1:], ("Readers",) + PAPER[1:], PAPER + ((),), PAPER[:3], PAPER[1:], list(PAPER),
            ("readers", VIEWS[:2], STAYS, (6, 10)), ("readers", VIEWS + ((4, 0),), STAYS, (6, 10)),
            ("readers", VIEWS[::-1], STAYS, (6, 10)), ("readers", VIEWS, STAYS[::-1], (6, 10)),
            ("readers", VIEWS, STAYS, (10, 6)), ("readers", VIEWS, STAYS, (6,)), ("readers", VIEWS, STAYS, (6, 10, 10)),
            ("readers", VIEWS, STAYS, ()), ("readers", VIEWS, STAYS[:1], (6,)), ("readers", VIEWS, (), ()),
            ("readers", list(VIEWS), STAYS, (6, 10)), ("readers", VIEWS, list(STAYS), (6, 10)),
            ("readers", VIEWS, STAYS, [6, 10]), ("readers", VIEWS, STAYS, (6, 9)), ("readers", VIEWS, STAYS, (6, 10.0)),
            ("readers", ((1, 0), (2, 2), (3, 6)), STAYS, (6, 10)), ("readers", ((1, 1), (2, 3), (3, 6)), STAYS, (6, 10)),
            ("readers", VIEWS, ((5, 7), (10, 11)), (6, 10)), ("readers", VIEWS, ((2, 7), (9, 11)), (6, 10)),
            ("readers", ((True, 0), (2, 3), (3, 6)), STAYS, (6, 10)), ("readers", ((1, False), (2, 3), (3, 6)), STAYS, (6, 10)),
            # More stays than are needed, beside as many spans that are not all apart.
            ("readers", VIEWS, STAYS + ((10, 11),), (6, 10)), ("span", 6, 10), None,
        ):
            same(self, shows_readers(EXAMPLE, value), False)

    def test_other_papers_of_the_same_log(self):
        for views in (((1, 0), (2, 3), (3, 6)), ((1, 0), (2, 3), (3, 7))):
            for stays in (((3, 7), (6, 11)), ((4, 7), (9, 11)), ((5, 7), (7, 11)), ((5, 9), (8, 11))):
                same(self, shows_readers(EXAMPLE, ("readers", views, stays, (6, 10))), True)
        # Two stays that overlap, and the second one does not go on.
        same(self, shows_readers(EXAMPLE, ("readers", VIEWS, ((5, 10), (6, 11)), (6, 10))), True)

    def test_any_values(self):
        for value in ODD:
            same(self, shows_readers(EXAMPLE, value), False)
            for at in range(4):
                same(self, shows_readers(EXAMPLE, PAPER[:at] + (value,) + PAPER[at + 1:]), False)
        for value in ((0, 0, 0, 0), ("readers", (), (), ()), ("readers", 1, 2, 3)):
            same(self, shows_readers(EXAMPLE, value), False)

    def test_papers_of_other_logs(self):
        papers = {rows: paper(rows) for rows in [chain(count) for count in range(4)] + [EXAMPLE, CROSSED]}
        for rows in papers:
            for told in papers.values():
                same(self, shows_readers(rows, told), told == papers[rows])

    def test_barred_logs(self):
        for seed in range(60):
            rows = any_log(random.Random(seed), 30)
            told = paper(rows)
            same(self, shows_readers(rows, told), bar(rows) is None)


class LogErrorsTest(unittest.TestCase):
    def test_rows_that_are_not_valid(self):
        for ask in (lambda rows: are_apart(rows, None, 3), lambda rows: is_apart(rows, None),
                    lambda rows: shows_readers(rows, None), lambda rows: shows_readers(rows, PAPER)):
            for at in (0, 4, 11):
                for value in ODD_VALUES + (("sweep",), ["fall"]):
                    if value != ("sweep",) or at < 10:
                        self.assertEqual(raised(self, InvalidRow, ask, EXAMPLE[:at] + (value,) + EXAMPLE[at:]).index, at)
            for value in ODD_VALUES + (list(TWO_COMMITS),):
                if not isinstance(value, tuple):
                    self.assertEqual(raised(self, InvalidRow, ask, value).index, 0)
