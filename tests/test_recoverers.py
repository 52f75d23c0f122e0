import unittest

from samples import BEGINNING, ODD_NUMBERS, ODD_VALUES, TWO_COMMITS, raised, same, version
from whoheld.errors import InvalidLoss, InvalidPages, InvalidRow, NotPrepared, Unsettled
from whoheld.houses import House
from whoheld.pages import empty_pages
from whoheld.recoverers import Recoverer
from whoheld.states import State
from whoheld.store import Store

PREPARED = (("open", 1, None), ("put", 1, 0, 0, "k", "a"), ("prepare", 1, 0))


def recoverer_of(*rows, pages=8):
    house = Recoverer(pages=pages)
    for row in rows:
        house.take(row)
    return house


class Shop(Store):
    """A class below those of the program."""


class RecovererCase(unittest.TestCase):
    def fails(self, house, error, work, *arguments, **named):
        before = self.all_of(house)
        found = raised(self, error, work, *arguments, **named)
        same(self, self.all_of(house), before)
        return found

    def all_of(self, house):
        return [house.log, house.state.pages, house.synced, house.open_views(), house.state.word_in_force]

    def is_behind(self, house, rows):
        """Asserts that all that a house says is that of these rows."""
        state = State.of(rows)
        same(self, [house.log, house.state.rows, house.state.pages, house.state.word_in_force, len(house.state)],
             [rows, rows, state.pages, state.word_in_force, len(rows)])
        same(self, [house.state.fates().numbers, house.state.fates().open_numbers(), house.state.stubs],
             [state.fates().numbers, state.fates().open_numbers(), state.stubs])


class SyncedTest(RecovererCase):
    def test_behind_each_kind_of_row(self):
        house = Recoverer()
        same(self, house.synced, 0)
        for row, synced in (
            (("open", 1, None), 0),
            (("put", 1, 0, 0, "a", "x"), 0),
            (("open", 2, 1), 0),
            (("put", 2, 0, 1, "b", "x"), 0),
            (("commit", 2), 0),
            (("open", 3, 1), 0),
            (("abort", 3), 0),
            (("commit", 1), 8),
            (("open", 4, None), 8),
            (("change", 4, 0, 0, 0, 2, "y"), 8),
            (("abort", 4), 11),
            (("clean", 0, (2,), (0, 1)), 11),
            (("sweep",), 11),
            (("word", 2), 11),
            (("open", 5, None), 11),
            (("lock", 5, 0, 0), 11),
            (("prepare", 5, 3), 17),
            (("open", 6, None), 17),
            (("strike", 6, 0, 1), 17),
            (("commit", 5), 20),
            (("commit", 6), 21),
            (("tidy", 0, (1,)), 21),
            (("fall",), 23),
        ):
            house.take(row)
            same(self, house.synced, synced)
        same(self, [house.sync(), house.synced], [None, 23])

    def test_a_refused_row(self):
        house = recoverer_of(*TWO_COMMITS, ("open", 3, None), ("refused", 3, 0, 0))
        same(self, house.synced, 6)

    def test_sync(self):
        house = recoverer_of(*TWO_COMMITS[:2])
        same(self, [house.synced, house.sync(), house.synced], [0, None, 2])
        house.take(("put", 1, 0, 1, "m", "x"))
        same(self, [house.synced, house.log[house.synced:]], [2, (("put", 1, 0, 1, "m", "x"),)])

    def test_a_row_that_is_not_taken(self):
        house = recoverer_of(*TWO_COMMITS)
        for row in (("commit", 1), ("abort", 7), ("prepare", 1, 0), ["fall"], None, ()):
            self.assertEqual(self.fails(house, InvalidRow, house.take, row).index, 6)

    def test_it_is_a_house(self):
        self.assertIsInstance(Recoverer(), House)
        self.assertEqual([Recoverer().page_count, Recoverer(pages=2).page_count], [8, 2])
        for value in ODD_VALUES + (0, 9):
            self.assertIs(raised(self, InvalidPages, Recoverer, pages=value).value, value)


class FallTest(RecovererCase):
    ROWS = TWO_COMMITS + (
        ("clean", 0, (0,), (1,)), ("sweep",), ("word", 3), ("open", 3, None), ("put", 3, 0, 0, "m", "x"),
        ("open", 4, 3), ("change", 4, 0, 1, 0, 2, "c"), ("commit", 4),
    )

    def test_each_number_of_rows(self):
        for lost in range(len(self.ROWS) - 6 + 1):
            house = recoverer_of(*self.ROWS)
            same(self, [house.synced, house.fall(lost=lost)], [6, None])
            kept = self.ROWS[:len(self.ROWS) - lost]
            self.is_behind(house, kept + (("fall",),))
            same(self, house.synced, len(kept) + 1)
            greatest = max(row[1] for row in kept if row[0] == "open")
            house.take(("open", greatest + 1, None))

    def test_one_row_more(self):
        house = recoverer_of(*self.ROWS)
        count = len(self.ROWS) - 6
        self.assertEqual(self.fails(house, InvalidLoss, house.fall, lost=count + 1).value, count + 1)
        house.sync()
        self.assertEqual(self.fails(house, InvalidLoss, house.fall, lost=1).value, 1)
        house.fall()
        self.assertEqual(self.fails(house, InvalidLoss, house.fall, lost=1).value, 1)
        same(self, house.log, self.ROWS + (("fall",),))

    def test_other_values(self):
        house = recoverer_of(*self.ROWS)
        for value in ODD_VALUES:
            self.assertIs(self.fails(house, InvalidLoss, house.fall, lost=value).value, value)

    def test_an_empty_log(self):
        house = Recoverer()
        house.fall()
        house.fall(lost=0)
        self.is_behind(house, (("fall",), ("fall",)))

    def test_a_state_that_was_asked_for_before(self):
        house = recoverer_of(*self.ROWS)
        state = house.state
        house.fall(lost=3)
        self.assertEqual([state.rows, house.state.rows], [house.log, house.log])

    def test_what_lost_rows_did(self):
        house = recoverer_of(*TWO_COMMITS, ("word", 3), ("open", 3, None), ("change", 3, 0, 1, 0, 2, "c"))
        house.fall(lost=1)
        same(self, [house.state[0, 1], house.state[0, 2]], [version("k", "b", 2), None])
        house.fall()
        house = recoverer_of(*TWO_COMMITS, ("clean", 0, (0,), (1,)))
        house.fall(lost=1)
        same(self, [house.state[0, 0], house.state[0, 1]], [version("k", "a", 1, 2), version("k", "b", 2)])
        house = recoverer_of(*TWO_COMMITS, ("clean", 0, (0,), (1,)), ("sweep",))
        house.fall(lost=1)
        same(self, [house.state[0, 0], house.state.stubs], [("stub", "k"), 1])
        house = recoverer_of(*TWO_COMMITS, ("word", 3), ("word", 5))
        house.fall(lost=1)
        same(self, house.state.word_in_force, None)

    def test_a_state_of_all_rows_lost(self):
        house = recoverer_of(*TWO_COMMITS[:2])
        house.fall(lost=2)
        same(self, [house.log, house.state.pages, house.state.fates().numbers], [(("fall",),), empty_pages(), ()])
        house.take(("open", 1, None))

    def test_readers(self):
        house = recoverer_of(*TWO_COMMITS)
        readers = [house.reader() for _ in range(3)]
        readers[1].close()
        house.fall()
        later = house.reader()
        same(self, [reader.state for reader in readers + [later]], ["fallen", "closed", "fallen", "open"])
        same(self, [house.open_views(), readers[0].view, later.view], [[7], 6, 7])
        house.fall(lost=0)
        same(self, [later.state, house.open_views()], ["fallen", []])

    def test_a_reader_that_is_ahead_of_the_log_that_is_left(self):
        house = recoverer_of(*TWO_COMMITS, ("word", 3), ("word", 4))
        reader = house.reader()
        house.fall(lost=2)
        same(self, [reader.view, reader.state, house.log], [8, "fallen", TWO_COMMITS + (("fall",),)])

    def test_prepared_ones_go_on(self):
        house = recoverer_of(*PREPARED, ("open", 2, None), ("put", 2, 0, 1, "m", "x"))
        house.fall(lost=1)
        same(self, [house.open_views(), house.state.fates().open_numbers()], [[0], (1,)])
        house.fall()
        same(self, [house.open_views(), house.settle(1), house.log[-1]], [[0], None, ("commit", 1)])


class SettleTest(RecovererCase):
    def test_both_ways(self):
        house = recoverer_of(*PREPARED)
        same(self, [house.settle(1), house.log[-1], house.synced, house.open_views()], [None, ("commit", 1), 4, []])
        house = recoverer_of(*PREPARED)
        same(self, [house.settle(number=1, commit=False), house.log[-1], house.synced], [None, ("abort", 1), 4])
        house = recoverer_of(*PREPARED)
        same(self, [house.settle(1, commit=True), house.log[-1]], [None, ("commit", 1)])

    def test_settled_ones(self):
        for commit in (True, False):
            house = recoverer_of(*PREPARED)
            house.settle(1, commit=commit)
            for again in (True, False):
                self.assertEqual(self.fails(house, NotPrepared, house.settle, 1, commit=again).number, 1)

    def test_those_that_are_not_prepared(self):
        house = recoverer_of(
            ("open", 1, None), ("open", 2, 1), ("commit", 2), ("prepare", 1, 0), ("open", 3, None), ("open", 4, 3),
            ("open", 5, None), ("commit", 5), ("open", 6, None), ("abort", 6),
        )
        for number in (2, 3, 4, 5, 6, 7):
            self.assertEqual(self.fails(house, NotPrepared, house.settle, number).number, number)
        house.take(("fall",))
        for number in (2, 3, 4, 5, 6):
            self.assertEqual(self.fails(house, NotPrepared, house.settle, number, commit=False).number, number)
        house.settle(1)
        self.assertEqual(house.state.fates().fate(2), ("committed", len(house.log) - 1))

    def test_other_values(self):
        house = recoverer_of(*PREPARED)
        for value in ODD_NUMBERS:
            self.assertIs(self.fails(house, NotPrepared, house.settle, value).number, value)


class OfTest(RecovererCase):
    def test_each_class(self):
        for kind in (Recoverer, Store, Shop):
            house = kind.of(TWO_COMMITS)
            self.assertIs(type(house), kind)
            self.is_behind(house, TWO_COMMITS)
            same(self, [house.synced, house.open_views(), house.page_count], [6, [], 8])
            self.is_behind(kind.of(()), ())
            same(self, kind.of(rows=TWO_COMMITS, pages=1).page_count, 1)

    def test_all_rows_are_synced(self):
        house = Recoverer.of(TWO_COMMITS + (("word", 3), ("clean", 0, (), (0,))))
        same(self, [house.synced, house.state.word_in_force], [8, 3])
        self.assertEqual(self.fails(house, InvalidLoss, house.fall, lost=1).value, 1)

    def test_prepared_ones(self):
        for kind in (Recoverer, Store):
            house = kind.of(PREPARED + (("fall",),))
            same(self, [house.open_views(), house.synced], [[0], 4])
            house.settle(1)
            self.is_behind(house, PREPARED + (("fall",), ("commit", 1)))

    def test_wrong_numbers_of_pages_are_told_first(self):
        for kind in (Recoverer, Store):
            for value in ODD_VALUES + (0, 9):
                for rows in (TWO_COMMITS, None, (None,), TWO_COMMITS[:1]):
                    self.assertIs(raised(self, InvalidPages, kind.of, rows, pages=value).value, value)

    def test_what_is_no_tuple(self):
        for kind in (Recoverer, Store):
            for value in ODD_VALUES + ([], list(TWO_COMMITS), "fall"):
                if not isinstance(value, tuple):
                    self.assertEqual(raised(self, InvalidRow, kind.of, value).index, 0)

    def test_each_wrong_row(self):
        for at in range(len(TWO_COMMITS) + 1):
            for value in ODD_VALUES + (list(TWO_COMMITS[0]), ("commit", 9), ("sweep",)):
                rows = TWO_COMMITS[:at] + (value,) + TWO_COMMITS[at:]
                self.assertEqual(raised(self, InvalidRow, Recoverer.of, rows).index, at)
                self.assertEqual(raised(self, InvalidRow, Store.of, rows + (None,)).index, at)

    def test_pages_that_are_not_there(self):
        rows = TWO_COMMITS + (("clean", 3, (), ()), ("clean", 0, (0,), (1,)))
        for count in (1, 2, 3):
            self.assertEqual(raised(self, InvalidRow, Recoverer.of, rows, pages=count).index, 6)
        self.is_behind(Recoverer.of(rows, pages=4), rows)

    def test_the_first_of_several_wrong_rows(self):
        rows = (("clean", 7, (), ()), ("clean", 0, (1,), ()))
        self.assertEqual(raised(self, InvalidRow, Recoverer.of, rows, pages=7).index, 0)
        self.assertEqual(raised(self, InvalidRow, Recoverer.of, rows).index, 1)

    def test_open_ones(self):
        rows = PREPARED + (("open", 2, None), ("open", 3, 2), ("open", 4, None))
        for kind in (Recoverer, Store):
            self.assertEqual(raised(self, Unsettled, kind.of, rows).number, 2)
            self.assertEqual(raised(self, Unsettled, kind.of, rows + (("abort", 3), ("commit", 2))).number, 4)
            self.assertEqual(raised(self, InvalidRow, kind.of, rows + (("commit", 2),)).index, 6)
            self.is_behind(kind.of(rows + (("fall",),)), rows + (("fall",),))

    def test_an_inner_one_of_a_prepared_one_is_no_outer_one(self):
        rows = (("open", 1, None), ("open", 2, 1), ("commit", 2), ("prepare", 1, 0))
        self.is_behind(Recoverer.of(rows), rows)

    def test_the_rows_stay_as_they_are(self):
        house = Recoverer.of(BEGINNING)
        house.take(("open", 3, None))
        self.assertEqual([len(BEGINNING), len(house.log)], [6, 7])
