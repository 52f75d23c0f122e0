import random
import unittest

from driving import Driver
from naive import Evidence
from samples import ODD_VALUES, TWO_COMMITS, puts, raised, same
from whoheld.errors import InvalidRow, NotCleaning
from whoheld.floors import ceiling_of, floor_of, heights, spans

# Nothing, a mark below a ceiling, both, nothing any more.
CLEANINGS = TWO_COMMITS + (
    ("clean", 0, (), ()), ("clean", 0, (), (0,)), ("clean", 0, (0,), (1,)), ("clean", 0, (), ()), ("clean", 1, (), ()),
)
FIVE = (("open", 1, None), *puts(1, 0, list("abc")), ("commit", 1))


class FloorTest(unittest.TestCase):
    def bounds(self, rows, row):
        found = floor_of(rows=rows, row=row), ceiling_of(rows=rows, row=row)
        self.assertEqual(found, (floor_of(rows, row), ceiling_of(rows, row)))
        return found

    def test_what_they_remove_and_mark(self):
        # The commits are 2 and 5.
        same(self, [self.bounds(CLEANINGS, row) for row in range(6, 11)],
             [(-1, 2), (2, 5), (5, None), (-1, None), (-1, None)])

    def test_a_cleaning_that_only_removes(self):
        rows = TWO_COMMITS[:3] + (("clean", 0, (), (0,)), ("open", 2, None), ("strike", 2, 0, 0), ("commit", 2),
                                  ("clean", 0, (), ()), ("clean", 0, (0,), ()))
        same(self, [self.bounds(rows, row) for row in (3, 7, 8)], [(2, None), (-1, 6), (6, None)])

    def test_the_greatest_and_the_least(self):
        rows = FIVE + (("open", 2, None), ("strike", 2, 0, 0), ("commit", 2), ("open", 3, None), ("strike", 3, 0, 1),
                       ("commit", 3), ("open", 4, None), ("strike", 4, 0, 2), ("commit", 4))
        for told, bounds in (
            (((), ()), (-1, 4)), (((), (0, 1, 2)), (4, 7)), (((0,), (1, 2)), (7, 10)), (((0, 1), (2,)), (10, 13)),
            (((0, 1, 2), ()), (13, None)),
        ):
            same(self, self.bounds(rows + (("clean", 0) + told,), 14), bounds)

    def test_aborted_makers(self):
        rows = (("open", 1, None), ("put", 1, 0, 0, "a", "x"), ("strike", 1, 0, 0), ("abort", 1), ("clean", 0, (0,), ()))
        same(self, self.bounds(rows, 4), (-1, None))
        # A version with an aborted maker is left out, also beside others.
        rows = TWO_COMMITS + (("open", 3, None), ("put", 3, 0, 2, "m", "x"), ("abort", 3), ("clean", 0, (2,), (0,)))
        same(self, self.bounds(rows, 9), (2, 5))
        rows = rows[:9] + (("clean", 0, (0, 2), (1,)),)
        same(self, self.bounds(rows, 9), (5, None))

    def test_aborted_enders(self):
        rows = TWO_COMMITS[:5] + (("abort", 2), ("clean", 0, (1,), (0,)), ("clean", 0, (), ()))
        same(self, [self.bounds(rows, 6), self.bounds(rows, 7)], [(2, None), (-1, None)])
        rows = rows[:6] + (("clean", 0, (1,), ()),)
        same(self, self.bounds(rows, 6), (-1, 2))

    def test_open_makers_and_enders(self):
        rows = TWO_COMMITS[:5] + (("clean", 0, (), ()), ("clean", 0, (), (0,)))
        same(self, [self.bounds(rows, 5), self.bounds(rows, 6)], [(-1, 2), (2, None)])

    def test_what_is_decided_later_does_not_count(self):
        rows = TWO_COMMITS[:5] + (("clean", 0, (), (0,)), ("commit", 2), ("clean", 0, (), ()))
        same(self, [self.bounds(rows, 5), self.bounds(rows, 7)], [(2, None), (-1, 6)])

    def test_inner_makers(self):
        rows = (("open", 1, None), ("open", 2, 1), ("put", 2, 0, 0, "a", "x"), ("commit", 2), ("clean", 0, (), ()),
                ("commit", 1), ("clean", 0, (), ()), ("clean", 0, (), (0,)))
        same(self, [self.bounds(rows, row) for row in (4, 6, 7)], [(-1, None), (-1, 5), (5, None)])

    def test_old_versions(self):
        rows = TWO_COMMITS[:3] + (("clean", 0, (), (0,)), ("clean", 0, (), ())) + TWO_COMMITS[3:]
        rows += (("clean", 0, (), ()),)
        # The old version has no ceiling by its maker, but one by its ender, and the other one by its maker.
        same(self, [self.bounds(rows, row) for row in (3, 4, 8)], [(2, None), (-1, None), (-1, 7)])

    def test_stubs(self):
        rows = TWO_COMMITS + (("clean", 0, (0,), (1,)), ("clean", 0, (), ()), ("sweep",), ("clean", 0, (), ()))
        same(self, [self.bounds(rows, row) for row in (6, 7, 9)], [(5, None), (-1, None), (-1, None)])

    def test_tidy_rows(self):
        rows = TWO_COMMITS + (("tidy", 0, (0,)), ("clean", 0, (), (1,)))
        same(self, [self.bounds(rows, row) for row in (6, 7)], [(5, None), (5, None)])
        rows = (("open", 1, None), ("put", 1, 0, 0, "a", "x"), ("abort", 1), ("tidy", 0, (0,)))
        same(self, self.bounds(rows, 3), (-1, None))
        # It leaves versions that could go, but has no ceiling.
        rows = FIVE + (("open", 2, None), ("strike", 2, 0, 0), ("strike", 2, 0, 1), ("commit", 2), ("tidy", 0, (1,)),
                       ("clean", 0, (), (0, 2)))
        same(self, [self.bounds(rows, 9), self.bounds(rows, 10)], [(8, None), (4, 8)])

    def test_spans(self):
        same(self, [list(spans(CLEANINGS)), list(spans(rows=TWO_COMMITS)), list(spans(()))], [[(6, 2), (7, 5)], [], []])
        one, other = spans(CLEANINGS), spans(CLEANINGS)
        same(self, [next(one), next(other), list(one), list(other)], [(6, 2), (6, 2), [(7, 5)], [(7, 5)]])

    def test_each_index_that_is_no_cleaning(self):
        for rows in (CLEANINGS, CLEANINGS + (("fall",), ("word", None))):
            for ask in (floor_of, ceiling_of):
                for value in list(range(6)) + list(range(11, 14)) + list(range(-12, 0)) + [400, "6", (6,)]:
                    self.assertIs(raised(self, NotCleaning, ask, rows, value).row, value)
                for value in ODD_VALUES:
                    self.assertIs(raised(self, NotCleaning, ask, rows, value).row, value)
        for ask in (floor_of, ceiling_of):
            self.assertEqual(raised(self, NotCleaning, ask, (), 0).row, 0)


class HeightsTest(unittest.TestCase):
    def test_floors(self):
        same(self, heights(CLEANINGS), (-1,) * 7 + (2, 5, 5, 5, 5))
        same(self, [heights(()), heights(rows=TWO_COMMITS)], [(-1,), (-1,) * 7])
        rows = TWO_COMMITS + (("tidy", 0, (0,)), ("clean", 0, (), (1,)))
        same(self, heights(rows), (-1,) * 6 + (5, 5, 5))

    def test_falls(self):
        same(self, heights((("fall",),)), (-1, 0))
        same(self, heights((("fall",), ("word", None), ("fall",), ("fall",))), (-1, 0, 0, 2, 3))
        rows = CLEANINGS[:8] + (("fall",), ("clean", 0, (0,), (1,)), ("fall",))
        same(self, heights(rows), (-1,) * 7 + (2, 2, 8, 8, 10))

    def test_a_lower_floor_behind_a_higher_one(self):
        rows = TWO_COMMITS + (("tidy", 0, (0,)), ("open", 3, None), ("put", 3, 0, 2, "m", "x"), ("commit", 3),
                              ("clean", 0, (), (1,)), ("clean", 0, (), (2,)))
        same(self, heights(rows), (-1,) * 6 + (5,) * 5 + (9, 9))


class LogErrorsTest(unittest.TestCase):
    ASK = (
        lambda rows: floor_of(rows, None), lambda rows: ceiling_of(rows, None), lambda rows: next(spans(rows)),
        lambda rows: heights(rows), lambda rows: list(spans(rows)), lambda rows: floor_of(rows, 0),
    )

    def test_rows_that_are_not_valid(self):
        for ask in self.ASK:
            for at in (0, 3, 11):
                for value in ODD_VALUES + (("commit", 9), list(CLEANINGS[0])):
                    self.assertEqual(raised(self, InvalidRow, ask, CLEANINGS[:at] + (value,) + CLEANINGS[at:]).index, at)

    def test_what_is_no_tuple(self):
        for ask in self.ASK:
            for value in ODD_VALUES + (list(CLEANINGS),):
                if not isinstance(value, tuple):
                    self.assertEqual(raised(self, InvalidRow, ask, value).index, 0)


class RandomTest(unittest.TestCase):
    def test_by_all_horizons(self):
        found = 0
        for seed in range(60):
            rows = Driver(random.Random(seed), keys="abcd").drive(50).store.log
            evidence = Evidence(rows)
            for q in evidence.cleanings:
                same(self, floor_of(rows, q), evidence.floors[q])
                same(self, ceiling_of(rows, q), evidence.ceiling(q))
            same(self, list(spans(rows)), evidence.spans())
            found += len(evidence.spans())
            expected = [max([-1] + [evidence.floors[r] for r in evidence.cleanings if r <= q]
                            + [fall for fall in evidence.falls if fall < q]) for q in range(len(rows) + 1)]
            same(self, heights(rows), tuple(expected))
        self.assertGreater(found, 100)
