import random
import unittest

from chains import CROSSED, EXAMPLE, chain
from crowds import Crowd, any_log, crowd
from driving import Driver
from naive import TOUCHING, pasts_of
from samples import ODD_VALUES, TWO_COMMITS, raised, same
from whoheld.errors import InvalidRow, NotCleaning
from whoheld.floors import ceiling_of, floor_of
from whoheld.reasoncheck import shows_ceiling, shows_floor
from whoheld.reasons import ceiling_reason, floor_reason


def reasons_of(rows, q, pasts=None):
    """All reasons of a clean or tidy row, by what is in its slots before and behind it."""
    pasts = pasts or pasts_of(rows)
    page, removed = rows[q][1:3]
    marked = rows[q][3] if rows[q][0] == "clean" else ()
    found = set()
    for slot in range(8):
        version, behind = pasts[q].versions().get((page, slot)), pasts[q + 1].versions().get((page, slot))
        if version is None:
            continue
        # The rows since the slot had no version; in them it was made, and ended once or more.
        first = max(index for index in range(q) if (page, slot) not in pasts[index].versions())
        makers = [index for index in range(first, q) if rows[index][0] in ("put", "change")
                  and (rows[index][2:4] if rows[index][0] == "put" else rows[index][4:6]) == (page, slot)]
        enders = [index for index in range(first, q) if rows[index][0] in ("change", "strike")
                  and rows[index][2:4] == (page, slot)]
        assert len(makers) == 1
        for index, word in [(index, "removed") for index in enders if slot in removed] + [
            (index, "marked") for index in makers if slot in marked
        ] + [(index, "left") for index in enders if behind and rows[q][0] == "clean"] + [
            (index, "left") for index in makers if behind and rows[q][0] == "clean" and not behind["old"]
        ]:
            commit = pasts[q].commit(rows[index][1])
            if commit is not None:
                found.add((word, slot, index, commit))
    return found


class ReasonCase(unittest.TestCase):
    def check(self, rows, q, pasts=None, bounds=None):
        """The reasons of a row are right, and exactly they are accepted."""
        found = reasons_of(rows, q, pasts)
        floors = {reason for reason in found if reason[0] != "left"}
        floor, ceiling = floor_of(rows, q), ceiling_of(rows, q)
        told = floor_reason(rows=rows, row=q)
        self.assertEqual(max([reason[3] for reason in floors], default=-1), floor)
        self.assertTrue(told is None if floor == -1 else told in floors and told[3] == floor)
        other = ceiling_reason(rows=rows, row=q)
        self.assertEqual(min([reason[3] for reason in found - floors], default=None), ceiling)
        self.assertTrue(other is None if ceiling is None else other in found - floors and other[3] == ceiling)
        same(self, [floor_reason(rows, q), ceiling_reason(rows, q)], [told, other])
        for reason in found:
            commit = reason[3]
            for bound in (bounds or (-1, 10 ** 59, -(10 ** 59))) + (commit - 1, commit, commit + 1):
                self.assertIs(shows_floor(rows, q, bound, reason), reason in floors and commit >= bound)
                self.assertIs(shows_ceiling(rows, q, bound, reason), reason not in floors and commit <= bound)
        return found


class ReasonsTest(ReasonCase):
    def test_the_example(self):
        same(self, floor_reason(EXAMPLE, 6), ("marked", 0, 1, 2))
        self.assertEqual(self.check(EXAMPLE, 6), {("marked", 0, 1, 2), ("left", 0, 4, 5), ("left", 1, 4, 5)})
        self.assertEqual(self.check(EXAMPLE, 10),
                         {("removed", 0, 4, 5), ("marked", 1, 4, 5), ("left", 1, 8, 9), ("left", 2, 8, 9)})

    def test_removed_ones(self):
        rows = TWO_COMMITS + (("clean", 0, (0,), (1,)),)
        self.assertEqual(self.check(rows, 6), {("removed", 0, 4, 5), ("marked", 1, 4, 5)})
        rows = TWO_COMMITS[:3] + (("open", 2, None), ("strike", 2, 0, 0), ("commit", 2), ("tidy", 0, (0,)))
        self.assertEqual(self.check(rows, 6), {("removed", 0, 4, 5)})
        self.assertIsNone(ceiling_reason(rows, 6))

    def test_nothing_to_show(self):
        rows = (("clean", 0, (), ()), ("open", 1, None), ("put", 1, 0, 0, "k", "a"), ("clean", 0, (), ()), ("abort", 1),
                ("clean", 0, (0,), ()))
        for q in (0, 3, 5):
            self.assertEqual(self.check(rows, q), set())
            same(self, [floor_reason(rows, q), ceiling_reason(rows, q)], [None, None])

    def test_old_versions(self):
        rows = TWO_COMMITS[:3] + (("clean", 0, (), (0,)), ("clean", 0, (), ())) + TWO_COMMITS[3:] + (("clean", 0, (), ()),)
        self.assertEqual(self.check(rows, 3), {("marked", 0, 1, 2)})
        self.assertEqual(self.check(rows, 4), set())
        self.assertEqual(self.check(rows, 8), {("left", 0, 6, 7), ("left", 1, 6, 7)})

    def test_enders_that_were_aborted(self):
        rows = TWO_COMMITS[:3] + (("open", 2, None), ("strike", 2, 0, 0), ("abort", 2), ("open", 3, None),
                                  ("strike", 3, 0, 0), ("commit", 3), ("clean", 0, (), (0,)), ("clean", 0, (0,), ()))
        self.assertEqual(self.check(rows, 9), {("marked", 0, 1, 2), ("left", 0, 7, 8)})
        self.assertEqual(self.check(rows, 10), {("removed", 0, 7, 8)})

    def test_slots_that_were_used_before(self):
        rows = TWO_COMMITS + (("clean", 0, (0,), (1,)), ("sweep",), ("open", 3, None), ("change", 3, 0, 1, 0, 0, "c"),
                              ("commit", 3), ("clean", 0, (), ()), ("clean", 0, (1,), (0,)))
        self.assertEqual(self.check(rows, 11), {("left", 1, 9, 10), ("left", 0, 9, 10)})
        self.assertEqual(self.check(rows, 12), {("removed", 1, 9, 10), ("marked", 0, 9, 10)})

    def test_two_versions_that_one_transaction_ended(self):
        # The slot of one of them has another version by then.
        rows = (("open", 1, None), ("put", 1, 0, 0, "a", "x"), ("put", 1, 0, 1, "b", "x"), ("commit", 1), ("open", 2, None),
                ("strike", 2, 0, 0), ("strike", 2, 0, 1), ("commit", 2), ("tidy", 0, (0,)), ("sweep",), ("open", 3, None),
                ("put", 3, 0, 0, "c", "x"))
        kept = rows + (("commit", 3), ("clean", 0, (), (1,)))
        self.assertEqual(self.check(kept, 13), {("marked", 1, 2, 3), ("left", 1, 6, 7), ("left", 0, 11, 12)})
        same(self, ceiling_reason(kept, 13), ("left", 1, 6, 7))
        gone = rows + (("abort", 3), ("clean", 0, (0, 1), ()))
        self.assertEqual(self.check(gone, 13), {("removed", 1, 6, 7)})
        same(self, floor_reason(gone, 13), ("removed", 1, 6, 7))

    def test_inner_numbers(self):
        rows = (("open", 1, None), ("open", 2, 1), ("put", 2, 0, 0, "a", "x"), ("commit", 2), ("open", 3, 1),
                ("strike", 3, 0, 0), ("abort", 3), ("commit", 1), ("clean", 0, (), (0,)), ("open", 4, None), ("open", 5, 4),
                ("strike", 5, 0, 0), ("commit", 5), ("clean", 0, (), ()), ("commit", 4), ("clean", 0, (0,), ()))
        self.assertEqual(self.check(rows, 8), {("marked", 0, 2, 7)})
        self.assertEqual(self.check(rows, 13), set())
        self.assertEqual(self.check(rows, 15), {("removed", 0, 11, 14)})

    def test_several_that_fit(self):
        self.assertEqual(len([reason for reason in self.check(CROSSED, 21) if reason[0] == "marked"]), 8)
        for rows in (chain(4), CROSSED):
            for q, row in enumerate(rows):
                if row[0] == "clean":
                    self.check(rows, q)


class RandomTest(ReasonCase):
    def test_stores(self):
        words = {}
        for seed in range(40):
            driver = Driver(random.Random(seed), weights={"tidy": 6}).drive(60) if seed % 2 else crowd(seed, 50, tidy=5)
            rows = driver.store.log
            self.clean_all(rows, words)
        self.assertGreater(min(words.values()), 100, words)
        self.assertEqual(set(words), {"removed", "marked", "left"})

    def test_logs_that_no_store_need_write(self):
        words = {}
        for seed in range(40):
            self.clean_all(any_log(random.Random(seed), 40), words)
        self.assertGreater(min(words.values()), 20, words)

    def clean_all(self, rows, words):
        pasts = pasts_of(rows)
        for q, row in enumerate(rows):
            if row[0] in ("clean", "tidy"):
                for reason in self.check(rows, q, pasts, (0, len(rows))):
                    words[reason[0]] = words.get(reason[0], 0) + 1

    def test_each_horizon(self):
        # Behind a driven store each page is cleaned for each horizon.
        for seed in range(6):
            driver = Crowd(random.Random(seed), clean=2).drive(60)
            rows, state = driver.store.log, driver.store.state
            for page in range(3):
                found = {state.cleaned(page, horizon) for horizon in range(len(rows) + 1)}
                for told in sorted(found):
                    self.check(rows + (("clean", page) + told,), len(rows), None, (0, len(rows) // 2))


class ErrorsTest(unittest.TestCase):
    ASK = (floor_reason, ceiling_reason, lambda rows, row: shows_floor(rows, row, 0, None),
           lambda rows, row: shows_ceiling(rows, row, 0, None))

    def test_what_is_no_cleaning(self):
        rows = EXAMPLE + (("tidy", 0, (1,)), ("sweep",))
        for ask in self.ASK:
            for value in ODD_VALUES + (0, 1, 2, 3, 4, 5, 7, 8, 9, 12, 13, -1, -3, 10 ** 59, "6", (6,), [6]):
                self.assertIs(raised(self, NotCleaning, ask, rows, value).row, value)
            for row in (6, 10, 11):
                self.assertIn(ask(rows, row), (None, False, floor_reason(rows, row), ceiling_reason(rows, row)))

    def test_rows_that_are_not_valid(self):
        for ask in self.ASK:
            for row in (6, None):
                for at in (0, 4, 7):
                    for value in ODD_VALUES + (("sweep",), ["fall"]):
                        rows = EXAMPLE[:at] + (value,) + EXAMPLE[at:]
                        self.assertEqual(raised(self, InvalidRow, ask, rows, row).index, at)
                for value in ODD_VALUES + (list(EXAMPLE),):
                    if not isinstance(value, tuple):
                        self.assertEqual(raised(self, InvalidRow, ask, value, row).index, 0)


class TouchingTest(unittest.TestCase):
    def test_other_rows_that_touch_are_no_origins(self):
        rows = TWO_COMMITS + (("open", 3, None), ("lock", 3, 0, 1), ("refused", 3, 0, 0), ("commit", 3),
                              ("clean", 0, (0,), (1,)))
        self.assertEqual(set(TOUCHING) & {row[0] for row in rows[6:]}, {"lock", "refused"})
        for slot, origin in ((1, 7), (0, 8)):
            for word in ("removed", "marked", "left"):
                self.assertFalse(shows_floor(rows, 10, 0, (word, slot, origin, 9)))
                self.assertFalse(shows_ceiling(rows, 10, 10, (word, slot, origin, 9)))
