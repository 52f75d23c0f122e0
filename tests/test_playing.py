import random
import unittest

from driving import Driver
from naive import Evidence
from samples import ODD_VALUES, TWO_COMMITS, puts, raised, same
from whoheld.errors import InvalidRow, Unplayed
from whoheld.playing import played
from whoheld.states import State
from whoheld.store import Store

ROWS = TWO_COMMITS + (("clean", 0, (), (0,)),)


class PlayedTest(unittest.TestCase):
    def test_the_example(self):
        store = played(ROWS, ((2, 3),), ((3, 7),))
        self.assertIs(type(store), Store)
        same(self, [store.log == ROWS, store.horizon], [True, 7])
        self.assertEqual(raised(self, Unplayed, played, ROWS).index, 6)

    def test_without_rows(self):
        store = played(())
        same(self, [store.log, store.horizon, store.open_views()], [(), 0, []])

    def test_views_and_stays_as_lists_and_by_name(self):
        for views, stays in ((((2, 3),), ((3, 7),)), ([(2, 3)], [(3, 7)]), ([], [(3, 7)]), ((), [(5, 7), (5, 7), (6, 7)])):
            same(self, played(rows=ROWS, views=views, stays=stays).log, ROWS)

    def test_logs_that_are_not_valid(self):
        for at in range(len(ROWS) + 1):
            for value in ODD_VALUES + (("sweep",),):
                self.assertEqual(raised(self, InvalidRow, played, ROWS[:at] + (value,) + ROWS[at:]).index, at)
        for value in ODD_VALUES + (list(ROWS),):
            if not isinstance(value, tuple):
                self.assertEqual(raised(self, InvalidRow, played, value, (), ()).index, 0)
        # That is told ahead of a row that is not written just so.
        self.assertEqual(raised(self, InvalidRow, played, ROWS + (("sweep",),)).index, 7)

    def test_logs_that_were_changed(self):
        # Whatever the store makes of such rows, the first one that is not valid is told.
        seen = 0
        for seed in range(60):
            rng = random.Random(seed)
            driver = Driver(rng).drive(40)
            for _ in range(15):
                rows = list(driver.store.log)
                for _ in range(rng.randrange(1, 3)):
                    at, other = rng.randrange(len(rows)), rng.randrange(len(rows))
                    what = rng.choice(("swap", "drop", "twice", "part"))
                    if what == "swap":
                        rows[at], rows[other] = rows[other], rows[at]
                    elif what == "drop":
                        rows.pop(at)
                    elif what == "twice":
                        rows.insert(at, rows[other])
                    else:
                        part = rng.randrange(len(rows[at]))
                        value = rng.choice((None, True, 0, 1, 2, 3, (), (0,), (1,), "k", rng.choice(rows[other])))
                        rows[at] = rows[at][:part] + (value,) + rows[at][part + 1:]
                expected = self.first_wrong(tuple(rows))
                if expected is not None:
                    error = raised(self, InvalidRow, played, tuple(rows), driver.views()[:3], driver.stays())
                    self.assertEqual(error.index, expected)
                    seen += 1
        self.assertGreater(seen, 400)

    def first_wrong(self, rows):
        try:
            State.of(rows)
        except InvalidRow as error:
            return error.index
        return None

    def test_views_that_do_not_see(self):
        rows = TWO_COMMITS
        for view in range(4):
            if view < 3:
                self.assertEqual(raised(self, Unplayed, played, rows, ((2, view),)).index, 4)
            else:
                same(self, played(rows, ((2, view),)).log, rows)

    def test_refused_rows(self):
        rows = TWO_COMMITS + (("open", 3, None), ("refused", 3, 0, 0))
        for view in range(7):
            if 3 <= view <= 5:
                same(self, played(rows, ((3, view),)).transactions(), [(3, view)])
            else:
                self.assertEqual(raised(self, Unplayed, played, rows, [(3, view)]).index, 7)

    def test_readers_that_hold_too_much_and_too_long(self):
        for stay, index in (((2, 7), 6), ((3, 6), 6), ((3, 7), None), ((5, 7), None), ((6, 7), 6), ((0, 6), 6)):
            if index is None:
                same(self, played(ROWS, (), (stay,)).log, ROWS)
            else:
                self.assertEqual(raised(self, Unplayed, played, ROWS, (), (stay,)).index, index)

    def test_readers_are_closed_before_the_row_of_their_end(self):
        rows = ROWS + (("clean", 0, (0,), (1,)),)
        same(self, played(rows, (), ((3, 7),)).open_views(), [])
        self.assertEqual(raised(self, Unplayed, played, rows, (), ((3, 8),)).index, 7)

    def test_tidy_rows(self):
        rows = TWO_COMMITS + (("word", 0), ("tidy", 0, (0,)))
        same(self, played(rows).log, rows)
        self.assertEqual(raised(self, Unplayed, played, rows, (), ((5, 8),)).index, 7)
        same(self, played(rows, (), ((6, 8),)).log, rows)

    def test_words(self):
        rows = TWO_COMMITS + (("word", 4), ("clean", 0, (), (0,)))
        same(self, played(rows).heard, 4)
        rows = TWO_COMMITS + (("word", 2), ("clean", 0, (), (0,)))
        self.assertEqual(raised(self, Unplayed, played, rows).index, 7)

    def test_falls(self):
        rows = TWO_COMMITS[:3] + (("open", 2, None), ("fall",), ("open", 3, None), ("change", 3, 0, 0, 0, 1, "b"))
        same(self, played(rows).log, rows)
        # A view ahead of a fall ends with it.
        self.assertEqual(raised(self, Unplayed, played, rows, ((3, 4),)).index, 5)
        same(self, played(rows, ((3, 5),)).transactions(), [(3, 5)])

    def test_stays_that_a_fall_cuts_off(self):
        rows = ROWS + (("fall",), ("clean", 0, (0,), (1,)))
        for stay in ((3, 7), (3, 8), (3, 9), (5, 9)):
            store = played(rows, (), (stay,))
            same(self, [store.log, store.open_views()], [rows, []])
        rows = ROWS + (("fall",), ("clean", 0, (), ()))
        self.assertEqual(raised(self, Unplayed, played, rows, (), ((3, 9),)).index, 8)
        same(self, played(ROWS + (("fall",),), (), ((7, 8), (3, 8))).log, ROWS + (("fall",),))

    def test_prepared_ones(self):
        for end in ("commit", "abort"):
            rows = (("word", 0), ("open", 1, None), ("put", 1, 0, 0, "k", "a"), ("prepare", 1, 1), ("fall",), (end, 1))
            same(self, played(rows).log, rows)
            self.assertEqual(raised(self, Unplayed, played, rows, ((1, 0),)).index, 3)

    def test_inner_ones(self):
        rows = (
            ("open", 1, None), ("open", 2, 1), ("put", 2, 0, 0, "a", "x"), ("open", 3, 2), ("change", 3, 0, 0, 0, 1, "y"),
            ("open", 4, 3), ("strike", 4, 0, 1), ("abort", 4), ("commit", 3), ("commit", 2), ("open", 5, 1), ("abort", 5),
            ("commit", 1), ("open", 6, None), ("lock", 6, 0, 1), ("clean", 0, (0,), (1,)), ("sweep",), ("commit", 6),
        )
        same(self, played(rows, ((6, 13),)).log, rows)

    def test_pages(self):
        rows = (("open", 1, None), *puts(1, 0, list("abcdefghij")), ("commit", 1), ("clean", 1, (), (0, 1)),
                ("clean", 5, (), ()), ("clean", 0, (), tuple(range(8))))
        same(self, played(rows).log, rows)

    def test_the_arguments_stay_as_they_are(self):
        views, stays = [(2, 3)], [(3, 7)]
        played(ROWS, views, stays)
        same(self, [views, stays], [[(2, 3)], [(3, 7)]])

    def test_the_store_goes_on(self):
        store = played(ROWS, (), ((3, 7),))
        one = store.begin()
        same(self, [one.change("k", "c"), one.number, one.commit(), store.log[7:]],
             [True, 3, None, (("open", 3, None), ("change", 3, 0, 1, 0, 2, "c"), ("commit", 3))])


class RandomTest(unittest.TestCase):
    def changed(self, rng, evidence, views, stays):
        """The views and stays with a view or a stay otherwise, a stay less or a stay more."""
        views, stays, length = list(views), list(stays), len(evidence.rows)
        view = rng.randrange(length)
        stay = (view, rng.randrange(view + 1, length + 1))
        what = rng.choice(("view", "less", "more", "stay", "end"))
        if what == "view" and views:
            at = rng.randrange(len(views))
            number = views[at][0]
            views[at] = (number, rng.randrange(evidence.numbers.opened[number] + 1))
        elif what == "more":
            stays.append(stay)
        elif stays:
            at = rng.randrange(len(stays))
            old = stays.pop(at)
            if what == "stay":
                stays.append(stay)
            elif what == "end":
                stays.append((old[0], rng.randrange(old[0] + 1, length + 1)))
        return views, stays

    def play(self, evidence, views, stays):
        expected = evidence.first_unplayed(views, stays)
        explains = evidence.explained_by(evidence.full_views(views), evidence.cut_stays(stays))
        self.assertIs(explains, expected is None)
        if expected is None:
            self.assertEqual(played(evidence.rows, tuple(views), tuple(stays)).log, evidence.rows)
        else:
            self.assertEqual(raised(self, Unplayed, played, evidence.rows, views, stays).index, expected)
        return expected is None

    def test_random_logs(self):
        counts = {True: 0, False: 0}
        for seed in range(60):
            rng = random.Random(seed)
            driver = Driver(rng, pages=rng.choice((1, 8))).drive(50)
            evidence = Evidence(driver.store.log)
            views, stays = driver.views(), driver.stays()
            self.assertTrue(self.play(evidence, views, stays), seed)
            for _ in range(12):
                counts[self.play(evidence, *self.changed(rng, evidence, views, stays))] += 1
        self.assertGreater(min(counts.values()), 100, counts)
