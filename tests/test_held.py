import inspect
import random
import unittest

from chains import CROSSED, EXAMPLE, STAYS, VIEWS, chain
from crowds import any_log, crowd
from samples import ODD_NUMBERS, ODD_VALUES, TWO_COMMITS, raised, same
from whoheld.bars import bar
from whoheld.errors import Barred, InvalidRow, NoTransaction, NotSpan
from whoheld.fewest import apart, fewest_readers, paper, stays
from whoheld.floors import ceiling_of, spans
from whoheld.held import Held
from whoheld.holders import who
from whoheld.logs import Log
from whoheld.ranges import range_of, ranges

ROWS = TWO_COMMITS + (("clean", 0, (), (0,)),)


class HeldCase(unittest.TestCase):
    def check(self, rows):
        """All that an object tells is what the functions tell, also when it is asked twice."""
        held = Held(rows)
        for _ in range(2):
            same(self, [held.rows, held.fewest, held.stays, held.apart, held.paper],
                 [rows, fewest_readers(rows), stays(rows), apart(rows), paper(rows)])
            same(self, held.views, tuple((number, low) for number, low, _ in ranges(rows)))
            same(self, list(held.spans()), list(spans(rows)))
            same(self, [len(held), repr(held)], [len(list(spans(rows))),
                 f"Held({len(rows)} rows, {len(list(spans(rows)))} spans, {fewest_readers(rows)} readers)"])
            for row, ceiling in spans(rows):
                same(self, [held[row], held.who(row)], [ceiling, who(rows, row)])
            for number, low, high in ranges(rows):
                same(self, [held.range_of(number), number in held], [(low, high), True])
        return held


class HeldTest(HeldCase):
    def test_the_examples(self):
        held = self.check(EXAMPLE)
        same(self, [held.views, held.stays, held.apart, held.fewest], [VIEWS, STAYS, (6, 10), 2])
        same(self, repr(held), "Held(11 rows, 2 spans, 2 readers)")
        self.check(ROWS)
        same(self, repr(Held(rows=ROWS)), "Held(7 rows, 1 spans, 1 readers)")

    def test_without_rows(self):
        held = self.check(())
        same(self, [held.rows, held.fewest, held.views, held.stays, held.apart, held.paper, list(held.spans()), len(held)],
             [(), 0, (), (), (), ("readers", (), (), ()), [], 0])
        same(self, repr(held), "Held(0 rows, 0 spans, 0 readers)")

    def test_many_logs(self):
        for rows in [chain(count) for count in range(5)] + [CROSSED, CROSSED + (("open", 5, None), ("open", 6, 5))]:
            self.check(rows)
        for seed in range(25):
            self.check(crowd(seed, 80, begin=3, commit=20).store.log)

    def test_numbers(self):
        held = Held(ROWS + (("open", 3, None), ("open", 4, 3), ("commit", 4)))
        same(self, [number in held for number in range(-1, 7)], [False, False, True, True, True, False, False, False])
        for value in ODD_NUMBERS + (4, 5, "1", (1,), [1], 10 ** 59):
            same(self, value in held, False)
            self.assertIs(raised(self, NoTransaction, held.range_of, value).number, value)
        same(self, [held.range_of(number=3), held.range_of(2)], [(3, 7), (3, 3)])

    def test_spans(self):
        held = Held(EXAMPLE + (("tidy", 0, (1,)), ("clean", 0, (), (2,))))
        for value in ODD_VALUES + tuple(range(-3, 6)) + (7, 8, 9, 11, 12, 13, "6", (6,), [6], (6, 10)):
            self.assertIs(raised(self, NotSpan, lambda: held[value]).row, value)
            self.assertIs(raised(self, NotSpan, held.who, value).row, value)
        same(self, [held[6], held[10], len(held), held.who(row=6)], [5, 9, 2, (None, (), (), (3, 5))])
        with self.assertRaises(TypeError):
            iter(held)

    def test_generators_by_turns(self):
        held = Held(EXAMPLE)
        self.assertTrue(inspect.isgeneratorfunction(Held.spans))
        one, other = held.spans(), held.spans()
        same(self, [next(one), next(other), next(one), list(other)], [(6, 5), (6, 5), (10, 9), [(10, 9)]])

    def test_equality(self):
        held = Held(EXAMPLE)
        self.assertTrue(held == Held(EXAMPLE) and not held != Held(EXAMPLE))
        for other in (Held(EXAMPLE[:10]), Held(()), EXAMPLE, list(EXAMPLE), Log(*EXAMPLE), None, 11, repr(held), held.paper):
            self.assertFalse(held == other or other == held)
            self.assertTrue(held != other and other != held)

    def test_it_never_changes(self):
        held = Held(EXAMPLE)
        for name in ("rows", "fewest", "views", "stays", "apart", "paper"):
            with self.assertRaises(AttributeError):
                setattr(held, name, ())
        held.later(("fall",))
        self.assertEqual(held, Held(EXAMPLE))


class LaterTest(HeldCase):
    def test_longer_logs(self):
        for at in range(len(EXAMPLE) + 1):
            later = Held(EXAMPLE[:at]).later(*EXAMPLE[at:])
            self.assertTrue(type(later) is Held and later == Held(EXAMPLE))
            same(self, [later.paper, later.rows], [Held(EXAMPLE).paper, EXAMPLE])
        held = Held(ROWS)
        same(self, held.later().rows, ROWS)
        later = held.later(("open", 3, None), ("put", 3, 0, 2, "b", "w"))
        same(self, [held.fewest, later.fewest, later.who(6)], [1, 0, (None, (), (3,), (3, 5))])

    def test_rows_that_are_not_valid(self):
        held = Held(ROWS)
        for value in ODD_VALUES + (("sweep",), ["fall"]):
            self.assertEqual(raised(self, InvalidRow, held.later, value).index, 7)
            self.assertEqual(raised(self, InvalidRow, held.later, ("fall",), value).index, 8)

    def test_rows_that_bar_the_log(self):
        held = Held(TWO_COMMITS)
        rows = (("fall",), ("clean", 0, (), (0,)))
        same(self, raised(self, Barred, held.later, *rows).bar, ("span", 7, 6))
        same(self, raised(self, Barred, held.later, ("word", 0), ("clean", 0, (), (0,))).bar, ("word", 6, 7))
        # The row that is not valid is told first.
        self.assertEqual(raised(self, InvalidRow, held.later, *rows, None).index, 8)


class ErrorsTest(unittest.TestCase):
    def test_barred_logs(self):
        for seed in range(80):
            rows = any_log(random.Random(seed), 30)
            if bar(rows) is not None:
                same(self, raised(self, Barred, Held, rows).bar, bar(rows))

    def test_rows_that_are_not_valid(self):
        for at in (0, 4, 7):
            for value in ODD_VALUES + (("sweep",), ["fall"]):
                self.assertEqual(raised(self, InvalidRow, Held, ROWS[:at] + (value,) + ROWS[at:]).index, at)
        for value in ODD_VALUES + (list(ROWS), Log(*ROWS)):
            if not isinstance(value, tuple):
                self.assertEqual(raised(self, InvalidRow, Held, value).index, 0)
        rows = TWO_COMMITS + (("word", 0), ("clean", 0, (), (0,)), ("sweep",))
        self.assertEqual(raised(self, InvalidRow, Held, rows).index, 8)
