import random
import unittest

from driving import Driver
from samples import BEGINNING, ODD_NUMBERS, ODD_VALUES, TWO_COMMITS, raised, same
from whoheld.errors import InvalidRow, InvalidText, NoNumber, NoRow, TooLong
from whoheld.logs import Log
from whoheld.rowtexts import write_rows
from whoheld.states import State

OPEN = ("open", 1, None)


class LogCase(unittest.TestCase):
    def fails(self, log, error, work, *arguments):
        rows = log.rows
        found = raised(self, error, work, *arguments)
        same(self, [log.rows, len(log)], [rows, len(rows)])
        return found


class MakingTest(LogCase):
    def test_the_example(self):
        log = Log(OPEN, ("put", 1, 0, 0, "k", "a"), ("commit", 1))
        same(self, [str(log), len(log), log[2], log.cut(1) == Log(OPEN), Log.read(str(log)) == log, log == log.rows],
             ["open 1 -\nput 1 0 0 k a\ncommit 1", 3, ("commit", 1), True, True, False])
        self.assertEqual(self.fails(log, InvalidRow, log.later, ("fall",), ("sweep",)).index, 4)
        self.assertEqual(self.fails(log, NoRow, lambda: log[-1]).index, -1)

    def test_an_empty_log(self):
        log = Log()
        same(self, [log.rows, len(log), str(log), repr(log), Log.read("") == log, log.cut(0) == log], [(), 0, "", "Log(0 rows)", True, True])
        self.assertEqual(list(log.beginnings()), [log])

    def test_most(self):
        same(self, [Log.MOST, Log(OPEN).MOST], [400, 400])
        rows = (("fall",),) * 400
        log = Log(*rows)
        same(self, [len(log), repr(log), log.rows], [400, "Log(400 rows)", rows])
        for more in (("fall",), ("sweep",), None):
            self.assertEqual(raised(self, TooLong, Log, *rows, more).limit, 400)
            self.assertEqual(self.fails(log, TooLong, log.later, more).limit, 400)
        # That there are too many is told ahead of a wrong row.
        self.assertEqual(raised(self, TooLong, Log, *((None,) * 401)).limit, 400)
        self.assertEqual(raised(self, InvalidRow, Log, *((None,) * 400)).index, 0)
        self.assertEqual(raised(self, TooLong, Log.read, "\n".join(["fall"] * 401)).limit, 400)
        same(self, [len(log.later()), log.later() == log], [400, True])

    def test_the_first_row_that_is_not_valid(self):
        for at in range(len(TWO_COMMITS) + 1):
            for value in ODD_VALUES + (list(OPEN), ("sweep",), ("commit", 9)):
                rows = TWO_COMMITS[:at] + (value,) + TWO_COMMITS[at:]
                self.assertEqual(raised(self, InvalidRow, Log, *rows).index, at)
                self.assertEqual(raised(self, InvalidRow, Log, *rows, None).index, at)

    def test_many_numbers(self):
        rows = tuple(row for number in range(1, 134) for row in (("open", number, None), ("lock", number, 0, 0), ("abort", number)))
        rows = (("open", 1, None), ("put", 1, 0, 0, "k", "a"), ("commit", 1)) + tuple(
            (row[0], row[1] + 1) + row[2:] for row in rows[:396])
        self.assertEqual(len(Log(*rows)), 399)


class TextTest(LogCase):
    def test_read(self):
        for rows in (TWO_COMMITS, BEGINNING, (("word", None), ("fall",))):
            log = Log.read(text=write_rows(rows))
            self.assertIs(type(log), Log)
            same(self, [log.rows, str(log), log == Log(*rows)], [rows, write_rows(rows), True])

    def test_wrong_texts(self):
        for text, line, word in (
            ("fal", 0, 0), ("fall\n", 1, 0), ("\n", 0, 0), ("open 1 -\nput 1 0 0 k", 1, 5), ("open 1 1", 0, 2),
            ("open 1 -\nclean 0 1 1", 1, 3), ("fall fall", 0, 1), ("open  1 -", 0, 1), ("word -1", 0, 1), (" fall", 0, 0),
            ("open 1 -\ncommit 01", 1, 1), ("word", 0, 1),
        ):
            error = raised(self, InvalidText, Log.read, text)
            self.assertEqual((error.line, error.word), (line, word), text)
        for value in ODD_VALUES:
            if not isinstance(value, str):
                error = raised(self, InvalidText, Log.read, value)
                self.assertEqual((error.line, error.word), (0, 0))

    def test_texts_of_rows_that_cannot_stand(self):
        for text, index in (("sweep", 0), ("open 2 -", 0), ("fall\ncommit 1", 1), ("open 1 -\nput 1 0 1 k a", 1)):
            self.assertEqual(raised(self, InvalidRow, Log.read, text).index, index)
        # The text is read first.
        self.assertEqual(raised(self, InvalidText, Log.read, "sweep\nfal").line, 1)

    def test_too_long_a_text(self):
        self.assertEqual(raised(self, InvalidText, Log.read, "\n".join(["fall"] * 401 + [""])).line, 401)

    def test_repr(self):
        same(self, [repr(Log(OPEN)), repr(Log(*TWO_COMMITS))], ["Log(1 rows)", "Log(6 rows)"])


class AskingTest(LogCase):
    def test_rows_by_their_index(self):
        log = Log(*TWO_COMMITS)
        same(self, [log[index] for index in range(6)], list(TWO_COMMITS))
        for value in ODD_VALUES + (6, 7, -6, "a", (0, 1), slice(0, 2)):
            self.assertIs(self.fails(log, NoRow, lambda: log[value]).index, value)

    def test_state_behind(self):
        log = Log(*TWO_COMMITS)
        state = log.state_behind()
        self.assertIsInstance(state, State)
        same(self, [state.rows, state.pages], [TWO_COMMITS, State.of(TWO_COMMITS).pages])
        state.apply(("fall",))
        same(self, [len(log.state_behind()), len(log), len(state)], [6, 6, 7])

    def test_equality(self):
        log = Log(*TWO_COMMITS)
        same(self, [log == Log(*TWO_COMMITS), log == log, log == Log(*TWO_COMMITS[:5]), log != Log(*TWO_COMMITS)],
             [True, True, False, False])
        for other in (TWO_COMMITS, list(TWO_COMMITS), str(log), State.of(TWO_COMMITS), None, 6):
            self.assertIs(log == other, False)
            self.assertIs(other == log, False)
            self.assertIs(log != other, True)

    def test_later(self):
        log = Log(*TWO_COMMITS[:3])
        longer = log.later(*TWO_COMMITS[3:])
        same(self, [longer.rows, log.rows, log.later().rows], [TWO_COMMITS, TWO_COMMITS[:3], TWO_COMMITS[:3]])
        for value in ODD_VALUES:
            self.assertEqual(self.fails(log, InvalidRow, log.later, ("fall",), value).index, 4)

    def test_cut(self):
        log = Log(*TWO_COMMITS)
        for count in range(7):
            same(self, [log.cut(count).rows, log.cut(count=count) == Log(*TWO_COMMITS[:count]), len(log)],
                 [TWO_COMMITS[:count], True, 6])
        for value in ODD_VALUES + (7, 400):
            self.assertIs(self.fails(log, NoRow, log.cut, value).index, value)

    def test_beginnings(self):
        log = Log(*TWO_COMMITS)
        found = list(log.beginnings())
        same(self, [beginning.rows for beginning in found], [TWO_COMMITS[:count] for count in range(7)])
        self.assertEqual({type(beginning) for beginning in found}, {Log})
        self.assertEqual(found[3].later(TWO_COMMITS[3]), found[4])
        one, other = log.beginnings(), log.beginnings()
        same(self, [len(next(one)), len(next(other)), len(next(one)), len(next(other)), len(next(one))], [0, 0, 1, 1, 2])

    def test_it_is_not_iterated_over(self):
        raised(self, TypeError, list, Log(OPEN))

    def test_properties_are_not_assigned(self):
        with self.assertRaises(AttributeError):
            Log(OPEN).rows = ()


class FamilyTest(LogCase):
    ROWS = (
        ("open", 1, None), ("open", 2, None), ("open", 3, 1), ("put", 2, 0, 0, "a", "x"), ("put", 3, 0, 1, "b", "x"),
        ("open", 4, 3), ("abort", 4), ("commit", 3), ("clean", 0, (), ()), ("commit", 2), ("prepare", 1, 0), ("fall",),
        ("commit", 1), ("word", 3),
    )

    def test_outer_and_inner_numbers(self):
        log = Log(*self.ROWS)
        first = [(index, self.ROWS[index]) for index in (0, 2, 4, 5, 6, 7, 10, 12)]
        for number in (1, 3, 4):
            same(self, list(log.of_family(number)), first)
        same(self, list(log.of_family(number=2)), [(index, self.ROWS[index]) for index in (1, 3, 9)])

    def test_wrong_numbers(self):
        log = Log(*self.ROWS)
        for value in ODD_NUMBERS + (5, 999999):
            self.assertIs(self.fails(log, NoNumber, lambda: next(log.of_family(value))).number, value)
        self.assertEqual(self.fails(Log(), NoNumber, lambda: list(Log().of_family(1))).number, 1)

    def test_each_deed(self):
        rows = TWO_COMMITS + (("open", 3, None), ("refused", 3, 0, 0), ("lock", 3, 0, 1), ("strike", 3, 0, 1))
        same(self, list(Log(*rows).of_family(3)), [(index, rows[index]) for index in range(6, 10)])
        same(self, list(Log(*rows).of_family(2)), [(index, rows[index]) for index in (3, 4, 5)])


class RandomTest(LogCase):
    def test_logs_of_stores(self):
        for seed in range(10):
            rows = Driver(random.Random(seed)).drive(60).store.log
            log = Log(*rows)
            self.assertEqual([Log.read(str(log)), len(log), log.rows], [log, len(rows), rows])
            self.assertEqual(log.state_behind().pages, State.of(rows).pages)
            for beginning in log.beginnings():
                self.assertEqual(beginning, Log(*rows[:len(beginning)]))
            self.assertEqual(log.cut(20).later(*rows[20:]), log)
