import random
import unittest
from itertools import combinations

from chains import CROSSED, EXAMPLE, STAYS, VIEWS, chain
from crowds import any_log, crowd
from driving import Driver
from samples import ODD_VALUES, TWO_COMMITS, raised, same
from showing import Showing
from whoheld.bars import bar
from whoheld.errors import InvalidRow, Unplayed
from whoheld.explaining import explains, first_lack
from whoheld.fewest import paper
from whoheld.playing import played

ODD = ODD_VALUES + ("x", (1,), [1], (1, 2, 3), {1: 2})

# With these values in place of the right ones, a log shows each kind of lack by itself.
LACKS = {
    "views": (("views", ((1, 0), (3, 6), (2, 3))), ("views", 1)),
    "stays": (("stays", ((9, 11), (5, 7))), ("stays", 1)),
    "view": (("views", ((1, 0), (2, 2), (3, 6))), ("view", 2, 4)),
    "stay": (("stays", ((5, 11), (9, 11))), ("stay", 0, 10)),
    "word": (("word", 2), ("word", 7)),
    "span": (("stays", ((6, 7), (9, 11))), ("span", 6)),
}

# Where two kinds are about the same values, values that show both.
BOTH = {
    ("views", "view"): (((2, 2), (1, 0), (3, 6)), STAYS),
    ("stays", "stay"): (VIEWS, ((5, 11), (5, 11))),
    ("stays", "span"): (VIEWS, ((6, 7), (6, 7))),
    ("stay", "span"): (VIEWS, ((2, 7), (9, 10))),
}


class ExplainingCase(unittest.TestCase):
    def check(self, rows, views, stays, lack, showing=None):
        showing = showing or Showing(rows)
        same(self, [first_lack(rows, views, stays), explains(rows, views, stays)], [lack, lack is None])
        same(self, [first_lack(rows=rows, views=views, stays=stays), explains(rows=rows, views=views, stays=stays)],
             [lack, lack is None])
        same(self, showing.lack(views, stays), lack)


class KindsTest(ExplainingCase):
    def test_the_examples(self):
        self.check(EXAMPLE, VIEWS, STAYS, None)
        self.check(EXAMPLE, VIEWS, ((5, 11),), ("stay", 0, 10))
        self.check(EXAMPLE, VIEWS, ((5, 7),), ("span", 10))
        self.check(EXAMPLE, ((1, 0), (2, 2), (3, 6)), STAYS, ("view", 2, 4))

    def test_without_rows(self):
        self.check((), (), (), None)
        self.check((), ((1, 0),), (), ("views", 0))
        self.check((), (), ((0, 1),), ("stays", 0))

    def with_lacks(self, *kinds):
        rows, views, stays = EXAMPLE, VIEWS, STAYS
        for kind in kinds:
            place, value = LACKS[kind][0]
            if place == "views":
                views = value
            elif place == "stays":
                stays = value
            else:
                rows = rows[:6] + (("word", value),) + rows[6:]
        if "word" in kinds:
            # One row more ahead of the cleanings.
            views = tuple((number, view + 1 if view > 5 else view) for number, view in views)
            stays = tuple((view + 1 if view > 5 else view, end + 1) for view, end in stays)
        return rows, views, stays

    def test_each_kind_by_itself(self):
        for kind in LACKS:
            rows, views, stays = self.with_lacks(kind)
            lack = LACKS[kind][1]
            self.assertEqual(first_lack(rows, views, stays)[0], kind)
            self.check(rows, views, stays, lack)

    def test_each_pair_of_kinds(self):
        order = list(LACKS)
        for first, second in combinations(order, 2):
            rows, views, stays = self.with_lacks(first, second)
            if (first, second) in BOTH:
                views, stays = BOTH[first, second]
            told = first_lack(rows, views, stays)
            self.assertEqual(told[0], first, (first, second))
            self.check(rows, views, stays, told)
            # Without the first lack the second one is told.
            rows, views, stays = self.with_lacks(second)
            self.assertEqual(first_lack(rows, views, stays)[0], second)

    def test_all_kinds_at_once(self):
        rows, _, _ = self.with_lacks("word")
        wrong = {"views": (), "stays": (), "view": ((1, 0), (2, 1), (3, 9)), "stay": ((2, 9),)}
        self.check(rows, wrong["views"], [], ("views", 0))
        self.check(rows, wrong["view"], [], ("stays", 0))
        self.check(rows, wrong["view"], wrong["stay"], ("view", 2, 4))
        self.check(rows, ((1, 0), (2, 3), (3, 7)), wrong["stay"], ("stay", 0, 7))
        self.check(rows, ((1, 0), (2, 3), (3, 7)), (), ("word", 7))
        self.check(EXAMPLE, VIEWS, (), ("span", 6))


class FormsTest(ExplainingCase):
    def setUp(self):
        self.showing = Showing(EXAMPLE)

    def views(self, views, lack):
        self.check(EXAMPLE, views, STAYS, lack, self.showing)

    def stays(self, stays, lack):
        self.check(EXAMPLE, VIEWS, stays, lack, self.showing)

    def test_views_of_other_kinds(self):
        for value in ODD + (list(VIEWS), {1: 0, 2: 3, 3: 6}):
            if not isinstance(value, tuple):
                self.views(value, ("views", 0))
            for at in range(3):
                if value != VIEWS[at]:
                    self.views(VIEWS[:at] + (value,) + VIEWS[at + 1:], ("views", at))
                self.views(VIEWS[:at] + ((value, 3),) + VIEWS[at + 1:], ("views", at))
                if type(value) is not int or value < 0:
                    self.views(VIEWS[:at] + ((at + 1, value),) + VIEWS[at + 1:], ("views", at))
            self.views(VIEWS + (value,), ("views", 3))
        for value in ((1, 0, 0), [1, 0], (1,), (True, 0), (1, False), (1, -1), (0, 1), (2, 0), ("1", 0), (1, "0"), (1, None)):
            self.views((value,) + VIEWS[1:], ("views", 0))

    def test_views_left_out_twice_and_out_of_order(self):
        self.views((), ("views", 0))
        self.views(VIEWS[:1], ("views", 1))
        self.views(VIEWS[:2], ("views", 2))
        self.views(VIEWS[1:], ("views", 0))
        self.views(VIEWS[:2] + VIEWS[1:], ("views", 2))
        self.views(VIEWS + VIEWS[2:], ("views", 3))
        self.views(VIEWS + ((4, 0),), ("views", 3))
        self.views((VIEWS[0], VIEWS[2], VIEWS[1]), ("views", 1))
        self.views(VIEWS[::-1], ("views", 0))

    def test_views_that_are_too_great(self):
        for view in (1, 11, 999999, 1000000, 10 ** 59):
            self.views(((1, view),) + VIEWS[1:], ("view", 1, 0))
        self.views(VIEWS[:2] + ((3, 10 ** 59),), ("view", 3, 7))

    def test_inner_ones_have_no_views(self):
        rows = (("open", 1, None), ("open", 2, 1), ("commit", 2), ("open", 3, 1), ("commit", 3), ("commit", 1),
                ("open", 4, None))
        self.check(rows, ((1, 0), (4, 3)), (), None)
        self.check(rows, ((1, 0), (2, 0), (4, 3)), (), ("views", 1))

    def test_stays_of_other_kinds(self):
        for value in ODD + (list(STAYS), {5: 7, 9: 11}):
            if not isinstance(value, tuple):
                self.stays(value, ("stays", 0))
            if value != (1, 2):
                for at in range(3):
                    self.stays(STAYS[:at] + (value,) + STAYS[at:], ("stays", at))
            self.stays(((value, 7),), ("stays", 0))
            self.stays(STAYS[:1] + ((9, value),), ("stays", 1))
        for value in ((5, 7, 7), [5, 7], (5,), (True, 7), (False, 1), (0, True), (5, 5), (7, 5), (-1, 7), (5, 12), (11, 12),
                      (11, 11), (5, 10 ** 59), (10 ** 59, 10 ** 59 + 1), ("5", 7), (5, None)):
            self.stays((value, STAYS[1]), ("stays", 0))

    def test_stays_twice_and_out_of_order(self):
        self.stays((STAYS[0], STAYS[0], STAYS[1]), ("stays", 1))
        self.stays(STAYS + STAYS[1:], ("stays", 2))
        self.stays(STAYS[::-1], ("stays", 1))
        self.stays(((5, 7), (5, 6), (9, 11)), ("stays", 1))
        self.stays(((5, 6), (5, 7), (9, 11)), None)
        self.stays(((3, 7), (4, 5), (9, 11), (10, 11)), None)


class ViewsTest(ExplainingCase):
    def test_all_views_of_the_example(self):
        ranges = {1: (0, 0), 2: (3, 3), 3: (6, 7)}
        for at, number in enumerate(ranges):
            for view in range(13):
                views = VIEWS[:at] + ((number, view),) + VIEWS[at + 1:]
                low, high = ranges[number]
                if low <= view <= high:
                    self.check(EXAMPLE, views, STAYS, None)
                else:
                    self.assertEqual(first_lack(EXAMPLE, views, STAYS)[:2], ("view", number))

    def test_several_rows_that_show_it(self):
        rows = EXAMPLE + (("open", 4, None), ("open", 5, 4), ("lock", 5, 0, 2), ("abort", 5), ("lock", 4, 0, 2),
                          ("clean", 0, (1,), (2,)), ("commit", 4))
        views = VIEWS + ((4, 10),)
        self.check(rows, views, STAYS, None)
        # The clean row ahead of its open row has the floor 5, the lock rows touch a version of the commit 9.
        for view, row in ((11, None), (10, None), (9, 13), (6, 13), (5, 10), (2, 6), (0, 6), (12, 11), (99, 11)):
            self.check(rows, VIEWS + ((4, view),), STAYS, None if row is None else ("view", 4, row))
        # Both transactions are wrong: the least number is told.
        self.check(rows, VIEWS[:2] + ((3, 5), (4, 9)), STAYS, ("view", 3, 8))

    def test_refused_and_prepare_rows(self):
        rows = TWO_COMMITS + (("open", 3, None), ("refused", 3, 0, 0), ("prepare", 3, 4))
        views = ((1, 0), (2, 3))
        for view, row in ((4, None), (3, 8), (5, 8), (2, 7), (6, 7), (7, 6)):
            self.check(rows, views + ((3, view),), (), None if row is None else ("view", 3, row))

    def test_falls_ahead(self):
        rows = (("fall",), ("open", 1, None), ("fall",), ("fall",), ("open", 2, None))
        self.check(rows, ((1, 1), (2, 4)), (), None)
        self.check(rows, ((1, 0), (2, 4)), (), ("view", 1, 0))
        for view, row in ((0, 0), (1, 2), (2, 2), (3, 3)):
            self.check(rows, ((1, 1), (2, view)), (), ("view", 2, row))

    def test_a_low_that_is_greater_than_the_high(self):
        # The lock row shows 4, the open row 2.
        rows = (("open", 1, None), ("put", 1, 0, 0, "k", "a"), ("open", 2, None), ("commit", 1), ("lock", 2, 0, 0))
        for view, row in ((0, 4), (2, 4), (3, 2), (4, 2), (5, 2)):
            self.check(rows, ((1, 0), (2, view)), (), ("view", 2, row))
        # A view of 3 breaks both.
        rows = (("open", 1, None), ("put", 1, 0, 0, "k", "a"), ("open", 2, None), ("commit", 1), ("refused", 2, 0, 0))
        rows = rows[:4] + (("open", 3, None), ("strike", 3, 0, 0), ("commit", 3)) + rows[4:]
        for view, row in ((2, 7), (3, 2), (4, 2), (6, 2), (7, 2)):
            self.check(rows, ((1, 0), (2, view), (3, 4)), (), ("view", 2, row))


class StaysTest(ExplainingCase):
    def test_floors(self):
        for view in range(11):
            for end in range(view + 1, 12):
                cut = [row for row, floor in ((6, 2), (10, 5)) if view <= row < end and floor >= view]
                lack = ("stay", 2, cut[0]) if cut else None
                stays = STAYS + ((view, end),)
                if stays != tuple(sorted(set(stays))):
                    stays = tuple(sorted(set(stays)))
                    lack = ("stay", stays.index((view, end)), cut[0]) if cut else None
                self.check(EXAMPLE, VIEWS, stays, lack)

    def test_tidy_rows(self):
        rows = TWO_COMMITS + (("tidy", 0, (0,)), ("word", 0))
        for stay, lack in (((5, 7), ("stay", 0, 6)), ((6, 7), None), ((6, 8), None), ((3, 6), None), ((5, 8), ("stay", 0, 6)),
                           ((7, 8), None)):
            self.check(rows, ((1, 0), (2, 3)), (stay,), lack)

    def test_falls(self):
        rows = TWO_COMMITS + (("clean", 0, (), (0,)), ("fall",), ("fall",))
        for stay, lack in (((5, 7), None), ((5, 8), ("stay", 0, 7)), ((5, 9), ("stay", 0, 7))):
            self.check(rows, ((1, 0), (2, 3)), (stay,), lack)
        for stay, lack in (((7, 8), ("stay", 1, 7)), ((7, 9), ("stay", 1, 7)), ((8, 9), ("stay", 1, 8))):
            self.check(rows, ((1, 0), (2, 3)), ((5, 7), stay), lack)

    def test_the_first_stay_and_the_least_row(self):
        self.check(EXAMPLE, VIEWS, ((2, 9), (2, 11)), ("stay", 0, 6))
        self.check(EXAMPLE, VIEWS, ((3, 7), (3, 11), (4, 11)), ("stay", 1, 10))

    def test_the_end_of_the_log(self):
        self.check(EXAMPLE[:7], VIEWS[:2], ((5, 7),), None)
        self.check(EXAMPLE[:7], VIEWS[:2], ((5, 8),), ("stays", 0))


class WordsTest(ExplainingCase):
    def test_words_at_their_bounds(self):
        for word in (0, 2, 3, 5, 6):
            rows = TWO_COMMITS + (("word", word), ("clean", 0, (), (0,)))
            lack = ("word", 7) if word <= 2 else None if word <= 5 else ("span", 7)
            self.check(rows, ((1, 0), (2, 3)), (), lack)
            self.check(rows, ((1, 0), (2, 3)), ((5, 8),), lack if word <= 2 else None)

    def test_several_cleanings(self):
        rows = TWO_COMMITS + (("word", 1), ("clean", 0, (), ()), ("clean", 0, (), (0,)), ("clean", 0, (0,), (1,)))
        self.check(rows, ((1, 0), (2, 3)), (), ("word", 8))
        self.check(rows[:8], ((1, 0), (2, 3)), (), None)

    def test_words_that_are_not_in_force(self):
        for between in (("fall",), ("word", None), ("word", 6)):
            rows = TWO_COMMITS + (("word", 1), between, ("clean", 0, (0,), (1,)))
            self.check(rows, ((1, 0), (2, 3)), (), None)


class SpansTest(ExplainingCase):
    def test_holders(self):
        views = ((1, 0), (2, 3))
        rows = TWO_COMMITS + (("clean", 0, (), (0,)),)
        for stay, lack in (((5, 7), None), ((3, 7), None), ((5, 6), ("span", 6)), ((6, 7), ("span", 6)), ((3, 6), ("span", 6))):
            self.check(rows, views, (stay,), lack)
        rows += (("open", 3, None),)
        for view, lack in ((3, None), (5, None), (6, ("span", 6)), (7, ("span", 6))):
            self.check(rows, views + ((3, view),), (), lack)

    def test_transactions_that_ended(self):
        rows = TWO_COMMITS + (("open", 3, None), ("commit", 3), ("clean", 0, (), (0,)))
        self.check(rows, ((1, 0), (2, 3), (3, 3)), (), ("span", 8))
        rows = TWO_COMMITS + (("open", 3, None), ("clean", 0, (), (0,)), ("commit", 3))
        self.check(rows, ((1, 0), (2, 3), (3, 3)), (), None)
        self.check(rows, ((1, 0), (2, 3), (3, 6)), (), ("span", 7))

    def test_the_least_span(self):
        rows = CROSSED + (("clean", 1, (0,), ()),)
        views = ((1, 0), (2, 12), (3, 12), (4, 12))
        for stays, lack in (((), 21), (((14, 23),), 23), (((15, 22),), 22), (((15, 24),), 22), (((14, 23), (20, 24)), None)):
            self.check(rows, views, stays, lack if lack is None else ("span", lack))


class LogsTest(ExplainingCase):
    def test_rows_that_are_not_valid(self):
        for ask in (first_lack, explains):
            for at in (0, 3, 11):
                for value in ODD_VALUES + (["fall"], ("tidy", 0, (7,))):
                    rows = EXAMPLE[:at] + (value,) + EXAMPLE[at:]
                    self.assertEqual(raised(self, InvalidRow, ask, rows, VIEWS, STAYS).index, at)
                    self.assertEqual(raised(self, InvalidRow, ask, rows, None, None).index, at)
            for value in ODD_VALUES + (list(EXAMPLE),):
                if not isinstance(value, tuple):
                    self.assertEqual(raised(self, InvalidRow, ask, value, (), ()).index, 0)

    def test_barred_logs_are_not_explained(self):
        for seed in range(60):
            rng = random.Random(seed)
            rows = any_log(rng, 25)
            showing = Showing(rows)
            if bar(rows) is None:
                self.check(rows, *paper(rows)[1:3], None, showing)
                continue
            for _ in range(20):
                views = tuple((number, rng.choice(showing.stretches[number])) for number in showing.outers)
                stays = {(view, rng.randrange(view + 1, 26)) for view in rng.sample(range(25), 6)}
                lack = first_lack(rows, views, tuple(sorted(stays)))
                self.assertIsNotNone(lack)
                self.check(rows, views, tuple(sorted(stays)), lack, showing)


class RandomTest(ExplainingCase):
    def play(self, rows, views, stays, explained):
        if explained:
            self.assertEqual(played(rows, views, stays).log, rows)
        else:
            raised(self, Unplayed, played, rows, views, stays)

    def cut(self, rows, stays):
        # A store cuts a stay off at the first fall in it; as it stands, it explains nothing.
        falls = [at for at, row in enumerate(rows) if row[0] == "fall"]
        return any(view <= fall < end for view, end in stays for fall in falls)

    def test_true_views_and_stays(self):
        needed = 0
        for seed in range(80):
            driver = Driver(random.Random(seed)).drive(70) if seed % 2 else crowd(seed, 70)
            rows, views, stays = driver.store.log, tuple(driver.views()), tuple(driver.stays())
            showing = Showing(rows)
            self.check(rows, views, stays, None, showing)
            self.play(rows, views, stays, True)
            for at in range(len(stays)):
                fewer = stays[:at] + stays[at + 1:]
                lack = first_lack(rows, views, fewer)
                self.check(rows, views, fewer, showing.lack(views, fewer), showing)
                self.assertTrue(lack is None or lack[0] == "span")
                needed += lack is not None
                if at < 3:
                    self.play(rows, views, fewer, lack is None)
        self.assertGreater(needed, 20)

    def test_changed_ones(self):
        kinds = {}
        for seed in range(50):
            rng = random.Random(seed)
            rows = crowd(seed, 60, hear=3, fall=1).store.log if seed % 2 else chain(seed % 7)
            showing = Showing(rows)
            for _ in range(25):
                views, stays = [list(part) for part in paper(rows)[1:3]]
                for _ in range(rng.randrange(1, 3)):
                    self.change(rng, len(rows), views, stays)
                views, stays = tuple(views), tuple(stays)
                lack = showing.lack(views, stays)
                self.check(rows, views, stays, lack, showing)
                kinds[lack and lack[0]] = kinds.get(lack and lack[0], 0) + 1
                firsts = dict((number, showing.numbers.opened[number]) for number in showing.outers)
                if lack is None or lack[0] not in ("views", "stays"):
                    if all(view <= firsts[number] for number, view in views) and not self.cut(rows, stays):
                        self.play(rows, views, stays, lack is None)
        self.assertGreater(min(kinds.get(kind, 0) for kind in (None, "views", "stays", "view", "stay", "span")), 20, kinds)

    def change(self, rng, length, views, stays):
        what = rng.choice(("view", "stay", "more", "less", "swap"))
        if what == "view" and views:
            at = rng.randrange(len(views))
            views[at] = (views[at][0], max(0, views[at][1] + rng.choice((-3, -1, 1, 3))))
        elif what == "more" and length:
            view = rng.randrange(length)
            stays.append((view, rng.randrange(view + 1, length + 1)))
            stays.sort()
        elif what == "swap" and rng.random() < 0.3:
            entries = rng.choice((views, stays))
            rng.shuffle(entries)
        elif stays:
            at = rng.randrange(len(stays))
            view, end = stays.pop(at)
            if what == "stay":
                stays.insert(at, (view + rng.choice((-1, 0, 1)), end + rng.choice((-1, 0, 1))))
