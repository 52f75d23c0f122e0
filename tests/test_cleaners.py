import unittest

from samples import ODD_PLACES, ODD_VALUES, TWO_COMMITS, puts, raised, same, version
from whoheld.cleaners import Cleaner
from whoheld.errors import InvalidPages, InvalidRow, InvalidView, NoPage, NotDead
from whoheld.houses import House


def cleaner_of(*rows, pages=8):
    house = Cleaner(pages=pages)
    for row in rows:
        house.take(row)
    return house


class CleanerCase(unittest.TestCase):
    def fails(self, house, error, work, *arguments, **named):
        """Asserts that an error is raised and that nothing has changed behind it."""
        before = self.all_of(house)
        found = raised(self, error, work, *arguments, **named)
        same(self, self.all_of(house), before)
        return found

    def all_of(self, house):
        return [house.log, house.state.pages, house.heard, house.horizon, house.local_horizon, house.open_views()]


class ExampleTest(CleanerCase):
    def test_the_example(self):
        house = Cleaner()
        for row in TWO_COMMITS[:3]:
            house.take(row)
        reader = house.reader()
        for row in TWO_COMMITS[3:]:
            house.take(row)
        same(self, [reader.view, house.horizon, house.clean()], [3, 3, ((0, (), (0,)),)])
        reader.close()
        same(self, [house.horizon, house.clean(0, 0), house.sweep(), len(house.log)],
             [7, ((0, (0,), (1,)),), 1, 9])
        self.assertIsNone(house.hear(2))
        same(self, [house.heard, house.horizon, house.local_horizon], [2, 2, 10])
        self.assertEqual(self.fails(house, NotDead, house.tidy, 0, 1).slot, 1)

    def test_it_is_a_house(self):
        self.assertIsInstance(Cleaner(), House)
        self.assertEqual([Cleaner().page_count, Cleaner(pages=3).page_count, Cleaner().log], [8, 3, ()])
        for value in ODD_VALUES + (0, 9, "8"):
            self.assertIs(raised(self, InvalidPages, Cleaner, pages=value).value, value)
        with self.assertRaises(TypeError):
            Cleaner(3)


class HorizonTest(CleanerCase):
    def test_nobody(self):
        house = cleaner_of(*TWO_COMMITS)
        same(self, [house.heard, house.horizon, house.local_horizon], [None, 6, 6])
        same(self, [Cleaner().horizon, Cleaner().local_horizon], [0, 0])

    def test_readers_and_words(self):
        house = cleaner_of(*TWO_COMMITS[:3])
        low = house.reader()
        house.take(TWO_COMMITS[3])
        high = house.reader()
        same(self, [house.open_views(), house.horizon, house.local_horizon], [[3, 4], 3, 3])
        house.hear(4)
        same(self, [house.heard, house.horizon, house.local_horizon], [4, 3, 3])
        house.hear(1)
        same(self, [house.heard, house.horizon, house.local_horizon], [1, 1, 3])
        low.close()
        same(self, [house.horizon, house.local_horizon], [1, 4])
        house.hear(None)
        same(self, [house.heard, house.horizon, house.local_horizon], [None, 4, 4])
        high.close()
        same(self, [house.horizon, house.local_horizon], [7, 7])

    def test_a_fall_ends_the_word_and_the_readers(self):
        house = cleaner_of(*TWO_COMMITS)
        house.hear(0)
        reader = house.reader()
        house.take(("fall",))
        same(self, [house.heard, house.horizon, house.local_horizon, reader.state], [None, 8, 8, "fallen"])

    def test_prepared_ones(self):
        house = cleaner_of(("open", 1, None), ("open", 2, None), ("prepare", 2, 1), ("prepare", 1, 0))
        same(self, house.horizon, 0)
        house.take(("commit", 1))
        same(self, house.horizon, 1)
        house.take(("fall",))
        same(self, house.horizon, 1)
        house.take(("abort", 2))
        same(self, house.horizon, 7)

    def test_transactions_by_hand_have_no_view(self):
        same(self, cleaner_of(("open", 1, None)).horizon, 1)


class CleanTest(CleanerCase):
    def test_no_version(self):
        house = Cleaner()
        same(self, [house.clean(), house.log], [(), ()])
        same(self, [house.clean(0), house.clean(7, 3), house.log],
             [((0, (), ()),), ((3, (), ()), (7, (), ())), (("clean", 0, (), ()), ("clean", 3, (), ()), ("clean", 7, (), ()))])

    def test_an_aborted_maker(self):
        house = cleaner_of(("open", 1, None), ("put", 1, 0, 0, "k", "a"))
        reader = house.reader()
        same(self, house.clean(), ((0, (), ()),))
        house.take(("abort", 1))
        same(self, [house.clean(), house.state[0, 0]], [((0, (0,), ()),), ("stub", "k")])
        self.assertEqual(reader.state, "open")

    def test_an_aborted_ender(self):
        house = cleaner_of(*TWO_COMMITS[:5], ("abort", 2))
        same(self, house.clean(), ((0, (1,), (0,)),))
        same(self, house.state[0, 0], version("k", "a", 1, old=True))

    def test_enders_below_at_and_above_the_horizon(self):
        for horizon, told in ((1, ((), ())), (2, ((), ())), (3, ((), (0,))), (5, ((), (0,))), (6, ((0,), (1,)))):
            house = cleaner_of(*TWO_COMMITS)
            house.hear(horizon)
            same(self, [house.clean(0), house.log[-1]], [((0,) + told,), ("clean", 0) + told])

    def test_readers_hold_what_they_see(self):
        house = cleaner_of(*TWO_COMMITS[:3])
        reader = house.reader()
        for row in TWO_COMMITS[3:]:
            house.take(row)
        for _ in range(2):
            house.clean()
            self.assertEqual(reader.get("k"), "a")
        reader.close()
        same(self, [house.clean(), house.clean()], [((0, (0,), (1,)),), ((0, (), ()),)])

    def test_a_view_that_is_prepared_holds(self):
        rows = TWO_COMMITS[:3] + (("open", 2, None), ("prepare", 2, 3), ("open", 3, None), ("strike", 3, 0, 0), ("commit", 3))
        house = cleaner_of(*rows)
        same(self, [house.horizon, house.clean()], [3, ((0, (), (0,)),)])
        house.take(("fall",))
        same(self, house.clean(), ((0, (), ()),))
        house.take(("commit", 2))
        same(self, house.clean(), ((0, (0,), ()),))

    def test_each_page_once_and_ascending(self):
        house = cleaner_of(("open", 1, None), *puts(1, 0, list("abcdefghij")), ("commit", 1))
        same(self, house.clean(1, 0, 1, 2), ((0, (), tuple(range(8))), (1, (), (0, 1)), (2, (), ())))
        same(self, house.log[-3:], (("clean", 0, (), tuple(range(8))), ("clean", 1, (), (0, 1)), ("clean", 2, (), ())))

    def test_without_arguments_all_pages_in_use(self):
        house = cleaner_of(("open", 1, None), *puts(1, 0, list("abcdefghij")), ("abort", 1))
        same(self, house.clean(), ((0, tuple(range(8)), ()), (1, (0, 1), ())))
        # Stubs are in use, too.
        same(self, house.clean(), ((0, (), ()), (1, (), ())))
        same(self, [house.sweep(), house.clean()], [10, ()])

    def test_the_horizon_is_that_of_each_row(self):
        # The commit is the last row: each page is cleaned for a horizon behind it.
        house = cleaner_of(("open", 1, None), *puts(1, 0, list("abcdefghi")), ("commit", 1))
        same(self, house.clean(), ((0, (), tuple(range(8))), (1, (), (0,))))

    def test_wrong_pages(self):
        for count in (1, 3, 8):
            house = cleaner_of(*TWO_COMMITS, pages=count)
            for value in ODD_PLACES + (count, count + 1):
                for pages in ((value,), (0, value), (value, 0, "x"), (0, 0, value, -7)):
                    self.assertIs(self.fails(house, NoPage, house.clean, *pages).page, value)

    def test_an_order_of_arguments_that_is_not_changed(self):
        house = cleaner_of(*TWO_COMMITS, pages=2)
        self.assertEqual(self.fails(house, NoPage, house.clean, 1, 2, 3).page, 2)
        same(self, [page for page, _, _ in house.clean(1, 0)], [0, 1])


class TidyTest(CleanerCase):
    def test_dead_versions(self):
        house = cleaner_of(*TWO_COMMITS)
        same(self, [house.tidy(0, 0), house.log[-1], house.state[0, 0]], [(0,), ("tidy", 0, (0,)), ("stub", "k")])
        # It marks nothing.
        same(self, house.state[0, 1], version("k", "b", 2))

    def test_several_slots_in_any_order(self):
        house = cleaner_of(("open", 1, None), *puts(1, 0, list("abcd")), ("abort", 1))
        same(self, [house.tidy(0, 3, 0, 1), house.log[-1]], [(0, 1, 3), ("tidy", 0, (0, 1, 3))])
        same(self, house.tidy(page=0), ())

    def test_no_slot(self):
        house = cleaner_of(*TWO_COMMITS)
        log = house.log
        same(self, [house.tidy(0), house.tidy(7), house.log], [(), (), log])

    def test_living_versions_stubs_and_free_slots(self):
        house = cleaner_of(*TWO_COMMITS, ("clean", 0, (0,), (1,)))
        for slot in range(8):
            self.assertEqual(self.fails(house, NotDead, house.tidy, 0, slot).slot, slot)
            self.assertEqual(self.fails(house, NotDead, house.tidy, 1, slot).slot, slot)

    def test_an_ender_that_is_open(self):
        house = cleaner_of(*TWO_COMMITS[:5])
        self.assertEqual(self.fails(house, NotDead, house.tidy, 0, 0).slot, 0)

    def test_one_slot_twice(self):
        house = cleaner_of(("open", 1, None), *puts(1, 0, list("abcd")), ("abort", 1))
        self.assertEqual(self.fails(house, NotDead, house.tidy, 0, 2, 1, 2).slot, 2)
        self.assertEqual(self.fails(house, NotDead, house.tidy, 0, 2, 2, 9).slot, 2)
        self.assertEqual(self.fails(house, NotDead, house.tidy, 0, 2, 9, 2).slot, 9)

    def test_it_heeds_views_but_no_word(self):
        house = cleaner_of(*TWO_COMMITS[:3])
        reader = house.reader()
        for row in TWO_COMMITS[3:]:
            house.take(row)
        self.assertEqual(self.fails(house, NotDead, house.tidy, 0, 0).slot, 0)
        reader.close()
        house.hear(0)
        same(self, [house.horizon, house.clean(0), house.tidy(0, 0)], [0, ((0, (), ()),), (0,)])

    def test_a_view_at_the_commit_and_behind_it(self):
        for rows, dead in ((5, False), (6, True)):
            house = cleaner_of(*TWO_COMMITS[:rows])
            house.reader()
            for row in TWO_COMMITS[rows:]:
                house.take(row)
            if dead:
                same(self, house.tidy(0, 0), (0,))
            else:
                self.fails(house, NotDead, house.tidy, 0, 0)

    def test_an_aborted_maker_is_dead_below_any_view(self):
        house = Cleaner()
        house.reader()
        for row in (("open", 1, None), ("put", 1, 0, 0, "k", "a"), ("abort", 1)):
            house.take(row)
        same(self, [house.local_horizon, house.tidy(0, 0)], [0, (0,)])

    def test_wrong_values(self):
        house = cleaner_of(*TWO_COMMITS, pages=2)
        for value in ODD_PLACES + (2,):
            self.assertIs(self.fails(house, NoPage, house.tidy, value).page, value)
            self.assertIs(self.fails(house, NoPage, house.tidy, value, 0, value).page, value)
        for value in ODD_PLACES:
            self.assertIs(self.fails(house, NotDead, house.tidy, 0, value).slot, value)
            self.assertIs(self.fails(house, NotDead, house.tidy, 0, 0, value).slot, value)


class SweepTest(CleanerCase):
    def test_with_and_without_stubs(self):
        house = cleaner_of(("open", 1, None), *puts(1, 0, list("abcdefghij")), ("abort", 1))
        log = house.log
        same(self, [house.sweep(), house.log], [0, log])
        house.clean()
        same(self, [house.sweep(), house.sweep(), house.log[-1], house.state.pages[:2]],
             [10, 0, ("sweep",), ((None,) * 8, (None,) * 8)])


class HearTest(CleanerCase):
    def test_words(self):
        house = cleaner_of(*TWO_COMMITS)
        for word in (None, 0, 3, 9, 5, 11, None):
            if word is not None:
                self.assertLessEqual(word, len(house.log))
            self.assertIsNone(house.hear(word))
            same(self, [house.heard, house.log[-1]], [word, ("word", word)])

    def test_the_length_of_the_log_and_one_more(self):
        house = cleaner_of(*TWO_COMMITS)
        self.assertEqual(self.fails(house, InvalidView, house.hear, 7).value, 7)
        self.assertIsNone(house.hear(word=6))
        self.assertIsNone(house.hear(7))

    def test_other_values(self):
        house = cleaner_of(*TWO_COMMITS)
        for value in ODD_VALUES + (8, 1000000):
            if value is not None:
                self.assertIs(self.fails(house, InvalidView, house.hear, value).value, value)


class TakeTest(CleanerCase):
    def test_rows_by_hand(self):
        house = cleaner_of(*TWO_COMMITS)
        house.reader()
        house.take(("clean", 0, (0,), (1,)))
        self.assertEqual(self.fails(house, InvalidRow, house.take, ("clean", 0, (0,), ())).index, 7)
        house.take(("word", 3))
        same(self, [house.heard, house.horizon], [3, 3])
