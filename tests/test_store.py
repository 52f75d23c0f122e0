import unittest

from samples import BEGINNING, ODD_VALUES, raised, same
from whoheld.cleaners import Cleaner
from whoheld.errors import Full, InvalidPages, NotDead, NotPrepared
from whoheld.houses import House
from whoheld.recoverers import Recoverer
from whoheld.store import Store
from whoheld.transactions import Transaction


class StoreTest(unittest.TestCase):
    def test_the_example(self):
        store = Store(pages=1)
        deal = store.begin()
        places = [deal.put(key, "0") for key in "abcdefgh"]
        same(self, [places[-1], deal.count(), store.transactions()], [(0, 7), 8, [(1, 0)]])
        log = store.log
        raised(self, Full, deal.put, "i", "0")
        self.assertEqual(store.log, log)

    def test_what_it_is(self):
        self.assertEqual(Store.__bases__, (Cleaner, Recoverer))
        store = Store()
        self.assertIsInstance(store, House)
        same(self, [store.page_count, store.log, store.synced, store.heard, store.horizon, store.open_views(),
                    store.transactions()], [8, (), 0, None, 0, [], []])
        for value in ODD_VALUES + (0, 9):
            self.assertIs(raised(self, InvalidPages, Store, pages=value).value, value)

    def test_begin(self):
        store = Store.of(BEGINNING)
        one = store.begin()
        self.assertIsInstance(one, Transaction)
        same(self, [one.view, one.number, one.state, store.log == BEGINNING, store.open_views()],
             [6, None, "open", True, [6]])
        self.assertNotEqual(store.begin(), one)

    def test_transactions(self):
        store = Store.of(BEGINNING)
        one, two, three = store.begin(), store.begin(), store.begin()
        same(self, store.transactions(), [])
        three.sign()
        inner = one.inner()
        inner.sign()
        same(self, store.transactions(), [(3, 6), (4, 6)])
        four = store.begin()
        four.prepare()
        same(self, [store.transactions(), four.number], [[(3, 6), (4, 6), (6, 9)], 6])
        three.commit()
        two.commit()
        same(self, store.transactions(), [(4, 6), (6, 9)])
        store.fall()
        same(self, store.transactions(), [(6, 9)])
        store.settle(6)
        same(self, store.transactions(), [])

    def test_transactions_that_were_opened_by_hand(self):
        store = Store.of(BEGINNING)
        store.take(("open", 3, None))
        same(self, [store.transactions(), store.open_views(), store.begin().sign()], [[], [], 4])
        store.take(("prepare", 3, 2))
        same(self, [store.transactions(), store.open_views()], [[(3, 2), (4, 7)], [2, 7]])

    def test_prepared_ones_of_a_log(self):
        rows = BEGINNING + (("open", 3, None), ("strike", 3, 0, 0), ("prepare", 3, 6), ("fall",))
        store = Store.of(rows)
        same(self, [store.transactions(), store.open_views(), store.synced, store.horizon], [[(3, 6)], [6], 10, 6])
        store.settle(3)
        same(self, [store.transactions(), store.begin().get("a")], [[], None])
        raised(self, NotPrepared, store.settle, 3)

    def test_the_list_belongs_to_the_caller(self):
        store = Store()
        store.begin().sign()
        store.transactions().clear()
        store.open_views().clear()
        same(self, [store.transactions(), store.open_views()], [[(1, 0)], [0]])

    def test_open_views(self):
        store = Store.of(BEGINNING)
        one = store.begin()
        reader = store.reader()
        one.sign()
        two = store.begin()
        same(self, [store.open_views(), store.horizon, store.local_horizon], [[6, 7], 6, 6])
        one.commit()
        same(self, store.open_views(), [6, 7])
        reader.close()
        same(self, [store.open_views(), store.horizon], [[7], 7])
        store.hear(2)
        same(self, [store.horizon, store.local_horizon], [2, 7])
        two.abort()
        same(self, [store.open_views(), store.horizon, store.local_horizon], [[], 2, 9])

    def test_a_transaction_that_never_gets_a_number_holds(self):
        store = Store.of(BEGINNING)
        one = store.begin()
        other = store.begin()
        other.strike("a")
        other.commit()
        log = store.log
        raised(self, NotDead, store.tidy, 0, 0)
        self.assertEqual(store.log, log)
        same(self, [store.clean(), one.get("a")], [((0, (), (0, 1)),), "x"])
        one.commit()
        same(self, store.tidy(0, 0), (0,))

    def test_falls(self):
        store = Store.of(BEGINNING)
        one, reader = store.begin(), store.reader()
        one.put("c", "z")
        store.hear(3)
        store.fall(lost=2)
        same(self, [one.state, reader.state, store.log, store.heard, store.synced, store.open_views()],
             ["fallen", "fallen", BEGINNING + (("open", 3, None), ("fall",)), None, 8, []])

    def test_synced_rises_with_what_transactions_write(self):
        store = Store()
        one = store.begin()
        one.put("a", "x")
        same(self, store.synced, 0)
        inner = one.inner()
        inner.sign()
        inner.commit()
        same(self, store.synced, 0)
        one.commit()
        same(self, store.synced, 5)
        two = store.begin()
        two.change("a", "y")
        two.prepare()
        same(self, store.synced, 8)

    def test_many_transactions_and_readers(self):
        store = Store()
        for at in range(60):
            one = store.begin()
            one.put("k" + "ab"[at // 26 // 2] + "abcdefghijklmnopqrstuvwxyz"[at % 26] + "ab"[at // 26 % 2], "v")
            reader = store.reader()
            one.commit()
            reader.close()
        same(self, [store.open_views(), store.transactions(), len(store.log), store.begin().count()], [[], [], 180, 60])
