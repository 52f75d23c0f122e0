import random
import unittest

from chains import CROSSED, EXAMPLE, chain, spread
from crowds import any_log, crowd
from samples import ODD_VALUES, TWO_COMMITS, raised, same
from showing import Showing
from whoheld.bars import bar
from whoheld.errors import InvalidRow
from whoheld.fewest import fewest_readers
from whoheld.shortcheck import holds, shows_shortest
from whoheld.shortest import shortest

ODD = ODD_VALUES + (1, 2, (0,), ((0,),), ((0,), (0,)))
BARRED = TWO_COMMITS + (("fall",), ("clean", 0, (), (0,)), ("open", 3, None), ("change", 3, 0, 1, 0, 2, "z"), ("commit", 3),
                        ("clean", 0, (0,), (1,)))


def with_entry(table, i, j, entry):
    line = table[i][:j] + (entry,) + table[i][j + 1:]
    return table[:i] + (line,) + table[i + 1:]


def shapes_of(table):
    """The table with lines and entries left out or twice, and as lists."""
    for i, line in enumerate(table):
        yield table[:i] + table[i + 1:]
        yield table[:i] + (line,) + table[i:]
        yield table[:i] + (list(line),) + table[i + 1:]
        for j in range(len(line)):
            yield table[:i] + (line[:j] + line[j + 1:],) + table[i + 1:]
            yield table[:i] + (line[:j] + (line[j],) + line[j:],) + table[i + 1:]
    yield list(table)
    yield (table,)
    yield ()


class HoldsCase(unittest.TestCase):
    def holds(self, showing, count, value):
        told = showing.holds(count, value)
        same(self, [holds(showing.rows, count, value), holds(rows=showing.rows, count=count, value=value)], [told, told])
        return told


class HoldsTest(HoldsCase):
    def logs(self):
        return [(), EXAMPLE, CROSSED, BARRED, chain(3), spread((2, 5, 0)), TWO_COMMITS + (("clean", 0, (), (0,)),)]

    def test_the_tables_of_each_count(self):
        for rows in self.logs():
            showing = Showing(rows)
            for count in range(21):
                self.assertTrue(self.holds(showing, count, showing.table(count)))
                for other in (count - 1, count + 1):
                    self.assertFalse(self.holds(showing, other, showing.table(count)))
                if bar(rows) is None and count >= fewest_readers(rows):
                    self.assertIs(holds(rows, count, shortest(rows, count)[2]), True)

    def test_each_entry_otherwise(self):
        for rows in self.logs():
            showing = Showing(rows)
            for count in (0, 1, 2, 4):
                table = showing.table(count)
                for i, line in enumerate(table):
                    for j, entry in enumerate(line):
                        others = [None, 0, 1, 10 ** 59, -1, True, False, "0", (0,), [0]]
                        others += [] if entry is None else [entry + 1, entry - 1]
                        for other in others:
                            self.holds(showing, count, with_entry(table, i, j, other))

    def test_greater_and_lesser_entries(self):
        # Two main spans that one reader can hold; the table is ((0, None, None), (0, 2, 16), (0, 2, 4)).
        showing = Showing(spread((9,)))
        table = ((0, None, None), (0, 2, 16), (0, 2, 4))
        same(self, showing.table(2), table)
        for i, j, entry, told in ((1, 1, 3, False), (1, 1, 1, True), (1, 1, 0, True), (1, 2, 17, False), (1, 2, 15, True),
                                  (2, 2, 5, False), (2, 2, 3, True), (2, 2, 0, True), (2, 2, None, False), (0, 1, 0, False),
                                  (0, 1, 2, False), (0, 0, 1, False), (1, 0, 1, False), (2, 0, None, False)):
            value = with_entry(table, i, j, entry)
            # What is less above lets less stand below.
            self.assertIs(self.holds(showing, 2, value), told and not (i == 1 and j == 1 and entry < 2), (i, j, entry))

    def test_entries_without_a_bound(self):
        showing = Showing(EXAMPLE)
        same(self, showing.table(2), ((0, None, None), (0, 2, None), (0, 2, 4)))
        # Nothing binds [1][2]: any integer from 0, or None. An integer there binds what is below.
        for entry, told in ((None, True), (4, True), (5, True), (10 ** 59, True), (3, False), (0, False), (-1, False)):
            self.assertIs(self.holds(showing, 2, ((0, None, None), (0, 2, entry), (0, 2, 4))), told)
        for entry in (3, 0):
            self.assertTrue(self.holds(showing, 2, ((0, None, None), (0, 2, entry), (0, 2, entry))))

    def test_shapes(self):
        for rows in self.logs():
            showing = Showing(rows)
            for count in (0, 2):
                for value in shapes_of(showing.table(count)):
                    self.assertFalse(self.holds(showing, count, value))

    def test_any_values(self):
        for rows in (EXAMPLE, ()):
            for count in (0, 1, 20):
                for value in ODD:
                    told = (rows, count, value) in (((), 0, ((0,),)), ((), 1, ((0,), (0,))))
                    same(self, holds(rows, count, value), told)

    def test_barred_logs(self):
        showing = Showing(BARRED)
        self.assertIsNotNone(bar(BARRED))
        same(self, [showing.main, showing.table(2)], [[(7, 5), (11, 10)], ((0, None, None), (0, None, None), (0, None, None))])
        for value, told in ((showing.table(2), True), (((0, None, None), (0, 0, 0), (0, 0, 0)), True),
                            (((0, None, None), (0, 1, None), (0, 1, 3)), True), (((0, None, None), (0, 1, None), (0, 1, 4)), False),
                            (((0, None, None), (0, 1, None), (0, 2, 3)), False), (((0, None, None), (0, None, None)), False)):
            self.assertIs(self.holds(showing, 2, value), told)

    def test_at_random(self):
        counts = {True: 0, False: 0}
        for seed in range(60):
            rng = random.Random(seed)
            rows = any_log(rng, 40) if seed % 3 == 0 else crowd(seed, 90, begin=2, commit=24, reader=14, close=12).store.log
            showing = Showing(rows)
            if not showing.main:
                continue
            for _ in range(30):
                count = rng.randrange(1, 5)
                table = showing.table(count)
                for _ in range(rng.randrange(1, 3)):
                    i, j = rng.randrange(count + 1), rng.randrange(len(showing.main) + 1)
                    entry = table[i][j]
                    entry = rng.choice((None, 0, 5)) if entry is None else entry + rng.choice((-1, 1, -entry))
                    table = with_entry(table, i, j, entry)
                counts[self.holds(showing, count, table)] += 1
        self.assertGreater(min(counts.values()), 50, counts)


class ShowsShortestTest(unittest.TestCase):
    def test_what_shortest_returns(self):
        for rows in ((), EXAMPLE, CROSSED, chain(3), spread((2, 5, 0))):
            least = fewest_readers(rows)
            for count in (least, least + 1, least + 2, 20):
                value = shortest(rows, count)
                same(self, [shows_shortest(rows, count, value), shows_shortest(rows=rows, count=count, value=value)],
                     [True, True])
                length, stays, table = value
                for other in (length + 1, length - 1, None, str(length), True, False, [length]):
                    if other != length or type(other) is not int:
                        self.assertIs(shows_shortest(rows, count, (other, stays, table)), False)
                for other in ((length, stays), (length, stays, table, ()), list(value), (length, list(stays), table),
                              (length, stays, list(table)), (stays, length, table), (length, stays + ((0, 1),), table),
                              (length, stays, table[1:]), (length, stays, table + table[-1:])):
                    self.assertIs(shows_shortest(rows, count, other), False)
                for at in range(len(stays)):
                    for stay in ((stays[at][0] - 1, stays[at][1]), (stays[at][0], stays[at][1] - 1), list(stays[at])):
                        other = stays[:at] + (stay,) + stays[at + 1:]
                        self.assertIs(shows_shortest(rows, count, (length, other, table)), False)
                    self.assertIs(shows_shortest(rows, count, (length, stays[:at] + stays[at + 1:], table)), False)

    def test_stays_that_are_not_the_shortest(self):
        rows = spread((9,))
        length, stays, table = shortest(rows, 2)
        self.assertEqual((length, stays), (4, ((45, 47), (59, 61))))
        one = shortest(rows, 1)
        for value, told in (((4, stays, table), True), ((16, one[1], table), False), ((5, ((44, 47), (59, 61)), table), False),
                            ((16, one[1], one[2]), False), ((4, stays, ((0, None, None), (0, 2, 15), (0, 2, 4))), True),
                            ((4, stays, ((0, None, None), (0, 2, 16), (0, 2, 3))), False)):
            self.assertIs(shows_shortest(rows, 2, value), told)
        self.assertIs(shows_shortest(rows, 1, one), True)
        self.assertIs(shows_shortest(rows, 1, (4, stays, table)), False)
        self.assertIs(shows_shortest(rows, 1, (4, stays, ((0, None, None), (0, 2, 4)))), False)
        # Other stays of the same length.
        rows = CROSSED[:21] + (CROSSED[22], CROSSED[21])
        length, stays, table = shortest(rows, 2)
        self.assertEqual((length, stays), (9, ((14, 23),)))

    def test_any_values(self):
        length, stays, table = shortest(EXAMPLE, 2)
        for value in ODD:
            self.assertIs(shows_shortest(EXAMPLE, 2, value), False)
            for other in ((value, stays, table), (length, value, table), (length, stays, value)):
                self.assertIs(shows_shortest(EXAMPLE, 2, other), False)
        self.assertIs(shows_shortest((), 0, (0, (), ((0,),))), True)
        self.assertIs(shows_shortest((), 0, (False, (), ((0,),))), False)

    def test_counts_that_are_too_few(self):
        for count in (0, 1):
            value = (4, ((5, 7), (9, 11)), Showing(EXAMPLE).table(count))
            self.assertIs(shows_shortest(EXAMPLE, count, value), False)

    def test_barred_logs(self):
        for count in range(4):
            for length in (0, 2, 4):
                for stays in ((), ((5, 8),), ((7, 8), (10, 12))):
                    self.assertIs(shows_shortest(BARRED, count, (length, stays, Showing(BARRED).table(count))), False)
        # A table of zeros holds of it.
        self.assertIs(shows_shortest(BARRED, 1, (0, (), ((0, None, None), (0, 0, 0)))), False)
        rows = TWO_COMMITS + (("word", 0), ("clean", 0, (0,), (1,)))
        self.assertIs(shows_shortest(rows, 1, (0, (), ((0,), (0,)))), False)


class LogErrorsTest(unittest.TestCase):
    def test_rows_that_are_not_valid(self):
        for function in (holds, shows_shortest):
            for told in (None, ((0,),), (0, (), ((0,),))):
                for at in (0, 3, 6):
                    for value in ODD_VALUES + (("sweep",), ["fall"]):
                        rows = EXAMPLE[:at] + (value,) + EXAMPLE[at:]
                        self.assertEqual(raised(self, InvalidRow, function, rows, 0, told).index, at)
                for value in ODD_VALUES + (list(EXAMPLE),):
                    if not isinstance(value, tuple):
                        self.assertEqual(raised(self, InvalidRow, function, value, 0, told).index, 0)
