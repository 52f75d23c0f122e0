import random
import unittest

from driving import Driver
from naive import Evidence
from samples import ODD_VALUES, TWO_COMMITS, puts, raised, same
from whoheld.errors import Cancelled, Ended, InvalidPages, InvalidRow, Strayed
from whoheld.far import Far
from whoheld.houses import House
from whoheld.recoverers import Recoverer
from whoheld.store import Store

CLEAN = ("clean", 0, (0,), (1,))


def far_of(*rows, pages=8):
    far = Far(pages=pages)
    for row in rows:
        far.take(row)
    return far


class FarCase(unittest.TestCase):
    def fails(self, far, error, work, *arguments):
        before = self.all_of(far)
        found = raised(self, error, work, *arguments)
        same(self, self.all_of(far), before)
        return found

    def all_of(self, far):
        return [far.log, far.position, far.least_view, far.cancelled, far.state.pages, far.open_views()]


class TakeTest(FarCase):
    def test_the_example(self):
        far = Far()
        for row in TWO_COMMITS[:3]:
            self.assertIsNone(far.take(row))
        reader = far.reader()
        for row in TWO_COMMITS[3:]:
            far.take(row)
        same(self, [reader.get("k"), far.position, far.least_view, far.cancelled], ["a", 6, 3, ()])
        far.take(CLEAN)
        same(self, [reader.state, far.least_view, far.cancelled, len(far.log)], ["cancelled", None, (3,), 7])
        raised(self, Cancelled, reader.get, "k")

    def test_it_is_a_house(self):
        far = Far(pages=2)
        self.assertIsInstance(far, House)
        self.assertEqual(Far().page_count, 8)
        same(self, [far.page_count, far.position, far.least_view, far.cancelled, far.log], [2, 0, None, (), ()])
        for value in ODD_VALUES + (0, 9):
            self.assertIs(raised(self, InvalidPages, Far, pages=value).value, value)

    def test_views_below_at_and_above_the_floor_of_a_clean_row(self):
        far = Far()
        readers = []
        for row in TWO_COMMITS:
            readers.append(far.reader())
            far.take(row)
        readers.append(far.reader())
        far.take(CLEAN)
        # The floor is 5.
        same(self, [reader.state for reader in readers], ["cancelled"] * 6 + ["open"])
        same(self, [far.cancelled, far.least_view], [(0, 1, 2, 3, 4, 5), 6])
        self.assertEqual(readers[6].get("k"), "b")

    def test_a_clean_row_that_marks(self):
        far = far_of(*TWO_COMMITS[:2])
        low = far.reader()
        far.take(TWO_COMMITS[2])
        high = far.reader()
        far.take(("clean", 0, (), (0,)))
        same(self, [low.view, low.state, high.view, high.state, far.cancelled], [2, "cancelled", 3, "open", (2,)])

    def test_a_floor_of_nothing(self):
        far = Far()
        reader = far.reader()
        for row in (("clean", 0, (), ()), ("open", 1, None), ("put", 1, 0, 0, "k", "a"), ("abort", 1),
                    ("clean", 0, (0,), ())):
            far.take(row)
        same(self, [reader.state, far.cancelled], ["open", ()])

    def test_views_below_at_and_above_the_floor_of_a_tidy_row(self):
        far = far_of(*TWO_COMMITS[:5])
        low = far.reader()
        far.take(TWO_COMMITS[5])
        high = far.reader()
        far.take(("tidy", 0, (0,)))
        same(self, [low.state, high.state, far.cancelled], ["cancelled", "open", (5,)])
        far = Far()
        reader = far.reader()
        for row in (("open", 1, None), ("put", 1, 0, 0, "k", "a"), ("abort", 1), ("tidy", 0, (0,))):
            far.take(row)
        same(self, [reader.state, far.cancelled], ["open", ()])

    def test_readers_that_were_closed_before(self):
        far = far_of(*TWO_COMMITS[:3])
        closed, left = far.reader(), far.reader()
        closed.close()
        for row in TWO_COMMITS[3:] + (CLEAN,):
            far.take(row)
        same(self, [closed.state, left.state, far.cancelled], ["closed", "cancelled", (3,)])
        self.assertIs(left.close(), False)
        raised(self, Ended, closed.get, "k")

    def test_the_order(self):
        rows = TWO_COMMITS[:3] + (("open", 2, None), ("put", 2, 0, 1, "m", "x"), ("commit", 2))
        far = far_of(*rows[:2])
        first = far.reader()
        far.take(rows[2])
        readers = [far.reader(), far.reader()]
        for row in rows[3:]:
            far.take(row)
        readers.append(far.reader())
        far.take(("clean", 0, (), (0,)))
        same(self, [far.cancelled, first.state], [(2,), "cancelled"])
        far.take(("clean", 0, (), (1,)))
        same(self, [far.cancelled, far.least_view], [(2, 3, 3), 6])
        far = Far()
        far.take(rows[0])
        late = far.reader()
        self.assertEqual(late.view, 1)
        for row in rows[1:]:
            far.take(row)
            far.reader()
        far.take(("clean", 0, (), (0, 1)))
        same(self, [far.cancelled, far.least_view], [(1, 2, 3, 4, 5), 6])

    def test_falls_end_no_reader(self):
        far = far_of(*TWO_COMMITS)
        reader = far.reader()
        far.take(("fall",))
        same(self, [reader.state, reader.get("k"), far.least_view, far.position], ["open", "b", 6, 7])

    def test_rows_that_are_not_valid(self):
        far = far_of(*TWO_COMMITS)
        far.reader()
        for row in ODD_VALUES + (("commit", 2), ("clean", 0, (1,), ()), list(CLEAN), ("tidy", 0, (1,)), ("sweep",)):
            self.assertEqual(self.fails(far, InvalidRow, far.take, row).index, 6)
        far = far_of(*TWO_COMMITS, pages=2)
        self.assertEqual(self.fails(far, InvalidRow, far.take, ("clean", 2, (), ())).index, 6)
        far.take(("clean", 1, (), ()))

    def test_an_invalid_clean_row_cancels_nobody(self):
        far = far_of(*TWO_COMMITS[:3])
        reader = far.reader()
        for row in TWO_COMMITS[3:]:
            far.take(row)
        self.fails(far, InvalidRow, far.take, ("clean", 0, (0,), ()))
        self.assertEqual(reader.state, "open")

    def test_least_views(self):
        far = far_of(*TWO_COMMITS[:3])
        low = far.reader()
        far.take(TWO_COMMITS[3])
        high = far.reader()
        same(self, far.least_view, 3)
        low.close()
        same(self, far.least_view, 4)
        high.close()
        same(self, far.least_view, None)

    def test_prepared_ones_are_no_readers(self):
        far = far_of(("open", 1, None), ("prepare", 1, 0))
        same(self, [far.least_view, far.open_views()], [None, [0]])

    def test_reading(self):
        far = far_of(*TWO_COMMITS)
        self.assertEqual(far.reading(lambda reader: (reader.view, reader.get("k"))), (6, "b"))
        with far.reader() as reader:
            far.take(CLEAN)
            self.assertEqual(list(reader.scan("a", "z")), [("k", "b")])
        self.assertEqual(reader.state, "closed")

    def test_a_reader_that_is_cancelled_in_its_block(self):
        far = far_of(*TWO_COMMITS[:3])
        with far.reader() as reader:
            for row in TWO_COMMITS[3:] + (CLEAN,):
                far.take(row)
        self.assertEqual(reader.state, "cancelled")


class FollowTest(FarCase):
    def store(self):
        store = Store()
        one = store.begin()
        one.put("a", "x")
        one.commit()
        return store

    def test_synced_rows_only(self):
        store, far = self.store(), Far()
        two = store.begin()
        two.put("b", "x")
        same(self, [far.follow(store), far.position, far.follow(store)], [3, 3, 0])
        two.commit()
        same(self, [far.follow(store=store), far.log == store.log], [3, True])
        store.hear(2)
        same(self, far.follow(store), 0)
        store.sync()
        same(self, far.follow(store), 1)

    def test_a_store_that_fell(self):
        store, far = self.store(), Far()
        two = store.begin()
        two.put("b", "x")
        far.follow(store)
        store.fall(lost=1)
        same(self, [far.follow(store), far.log == store.log], [2, True])

    def test_a_store_that_lost_rows_that_were_taken(self):
        store, far = self.store(), Far()
        two = store.begin()
        two.put("b", "x")
        for row in store.log:
            far.take(row)
        # It took more rows than are synced.
        self.assertEqual(self.fails(far, Strayed, far.follow, store).index, 3)
        store.fall(lost=1)
        self.assertEqual(self.fails(far, Strayed, far.follow, store).index, 4)
        far = far_of(*store.log[:3])
        same(self, far.follow(store), 2)

    def test_another_store(self):
        far = far_of(*TWO_COMMITS)
        self.assertEqual(self.fails(far, Strayed, far.follow, self.store()).index, 1)
        self.assertEqual(self.fails(far, Strayed, far.follow, Store()).index, 0)
        same(self, Far().follow(Store()), 0)

    def test_a_store_with_fewer_rows(self):
        store = self.store()
        far = far_of(*store.log)
        far.take(("open", 2, None))
        self.assertEqual(self.fails(far, Strayed, far.follow, store).index, 3)
        two = store.begin()
        two.put("b", "x")
        self.assertEqual(self.fails(far, Strayed, far.follow, store).index, 3)
        two.commit()
        same(self, far.follow(store), 2)

    def test_a_difference_ahead_of_the_length(self):
        store = self.store()
        far = far_of(("open", 1, None), ("put", 1, 0, 0, "a", "y"), ("commit", 1), ("open", 2, None))
        self.assertEqual(self.fails(far, Strayed, far.follow, store).index, 1)

    def test_cancelling_on_the_way(self):
        store, far = self.store(), Far()
        far.follow(store)
        reader = far.reader()
        store.hear(far.least_view)
        for value in "yz":
            two = store.begin()
            two.change("a", value)
            two.commit()
        store.clean()
        store.sync()
        far.follow(store)
        same(self, [reader.state, reader.get("a"), far.cancelled], ["open", "x", ()])
        # A tidy row does not heed the word.
        store.tidy(0, 0)
        store.sync()
        same(self, [far.follow(store), reader.state, far.cancelled], [1, "cancelled", (3,)])

    def test_pages_that_are_not_here(self):
        store = Store()
        one = store.begin()
        for key in "abcdefghi":
            one.put(key, "x")
        one.commit()
        far = Far(pages=1)
        # Nothing is taken of what came before.
        self.assertEqual(self.fails(far, InvalidRow, far.follow, store).index, 9)
        same(self, Far(pages=2).follow(store), 11)

    def test_a_house_that_only_recovers(self):
        house = Recoverer.of(TWO_COMMITS)
        same(self, Far().follow(house), 6)


class RandomFarTest(unittest.TestCase):
    def test_readers_that_are_not_cancelled_read_the_same(self):
        cancelled = 0
        for seed in range(40):
            rng = random.Random(seed)
            rows = Driver(rng, weights={"fall": 0.3, "tidy": 8, "hear": 0}).drive(60).store.log
            evidence = Evidence(rows)
            far = Far()
            readers = []
            for at, row in enumerate(rows):
                if rng.random() < 0.4:
                    reader = far.reader()
                    readers.append((reader, list(reader.scan("a", "z"))))
                far.take(row)
                floor = evidence.floors.get(at, -1)
                for reader, pairs in list(readers):
                    self.assertEqual(reader.state, "cancelled" if reader.view <= floor else "open")
                    if reader.state == "cancelled":
                        cancelled += 1
                        readers.remove((reader, pairs))
                    else:
                        self.assertEqual(list(reader.scan("a", "z")), pairs)
                        self.assertEqual([reader.get(key) for key in "abc"], [dict(pairs).get(key) for key in "abc"])
                self.assertEqual(far.least_view, min([reader.view for reader, _ in readers], default=None))
        self.assertGreater(cancelled, 100)

    def test_the_words_of_far_copies(self):
        """A far copy whose word a store heeds keeps its readers, if the store does not tidy."""
        for seed in range(20):
            rng = random.Random(seed)
            driver = Driver(rng, weights={"fall": 0, "tidy": 0, "hear": 0})
            far = Far()
            for _ in range(25):
                driver.step()
                driver.store.sync()
                far.follow(driver.store)
                if rng.random() < 0.3:
                    far.reader()
                if driver.store.heard != far.least_view:
                    driver.store.hear(far.least_view)
                driver.store.sync()
                far.follow(driver.store)
            self.assertEqual(far.cancelled, ())


class PlainPageTest(unittest.TestCase):
    def test_a_reader_that_would_read_a_plain_page_wrongly_is_cancelled(self):
        rows = (("open", 1, None), *puts(1, 0, list("ab")), ("commit", 1))
        far = Far()
        early = far.reader()
        for row in rows:
            far.take(row)
        self.assertEqual(early.slots_on(0), ())
        far.take(("clean", 0, (), (0, 1)))
        raised(self, Cancelled, early.slots_on, 0)
