import random
import unittest

from chains import EXAMPLE
from crowds import any_log, crowd
from naive import pasts_of
from samples import ODD_VALUES, TWO_COMMITS, same
from test_barcheck import changed
from test_reasons import reasons_of
from whoheld.reasoncheck import shows_ceiling, shows_floor

ODD = ODD_VALUES + ("removed", "marked", "left", ("removed",), ("left", 0, 4))
NEVER, EVER = -(10 ** 59), 10 ** 59


class ReasonCheckTest(unittest.TestCase):
    def shown(self, rows, row, value):
        """Whether a value is a reason for the floor, and whether it is one for the ceiling."""
        return [shows_floor(rows, row, NEVER, value), shows_ceiling(rows, row, EVER, value)]

    def test_the_examples(self):
        same(self, shows_floor(EXAMPLE, 10, 5, ("removed", 0, 4, 5)), True)
        same(self, shows_ceiling(EXAMPLE, 10, 9, ("left", 2, 8, 9)), True)
        same(self, shows_floor(rows=EXAMPLE, row=10, bound=5, value=("removed", 0, 4, 5)), True)
        same(self, shows_ceiling(rows=EXAMPLE, row=10, bound=9, value=("left", 2, 8, 9)), True)

    def test_bounds(self):
        for bound in (NEVER, -1, 0, 4, 5, 6, EVER):
            same(self, shows_floor(EXAMPLE, 10, bound, ("removed", 0, 4, 5)), bound <= 5)
            same(self, shows_floor(EXAMPLE, 10, bound, ("marked", 1, 4, 5)), bound <= 5)
        for bound in (NEVER, -1, 0, 8, 9, 10, EVER):
            same(self, shows_ceiling(EXAMPLE, 10, bound, ("left", 2, 8, 9)), bound >= 9)
        # Not only the greatest and the least ones show something.
        rows = TWO_COMMITS + (("clean", 0, (), ()), ("open", 3, None), ("change", 3, 0, 1, 0, 2, "z"), ("commit", 3),
                              ("clean", 0, (), ()), ("clean", 0, (0, 1), (2,)))
        for commit, reason in ((5, ("removed", 0, 4, 5)), (9, ("removed", 1, 8, 9)), (9, ("marked", 2, 8, 9))):
            same(self, [shows_floor(rows, 11, bound, reason) for bound in (5, 6, 9, 10)],
                 [commit >= bound for bound in (5, 6, 9, 10)])
        for commit, reason in ((2, ("left", 0, 1, 2)), (5, ("left", 0, 4, 5)), (9, ("left", 2, 8, 9))):
            same(self, [shows_ceiling(rows, 10, bound, reason) for bound in (1, 2, 4, 5, 9)],
                 [commit <= bound for bound in (1, 2, 4, 5, 9)])

    def test_each_entry_otherwise(self):
        for row in (6, 10):
            found = sorted(reasons_of(EXAMPLE, row))
            for reason in found:
                for value in changed(reason):
                    told = [type(value) is tuple and value in found and (value[0] != "left") is floor
                            and [type(part) for part in value] == [str, int, int, int] for floor in (True, False)]
                    same(self, self.shown(EXAMPLE, row, value), told)
                for word in ("removed", "marked", "left", "Left", ""):
                    value = (word,) + reason[1:]
                    same(self, self.shown(EXAMPLE, row, value),
                         [value in found and word != "left", value in found and word == "left"])

    def test_all_values_of_their_form(self):
        for rows, row in ((EXAMPLE, 6), (EXAMPLE, 10)):
            found = reasons_of(rows, row)
            for slot in range(-1, 9):
                for origin in range(-1, row + 2):
                    for commit in (1, 2, 4, 5, 8, 9, 10):
                        for word in ("removed", "marked", "left"):
                            value = (word, slot, origin, commit)
                            told = value in found
                            self.assertEqual(self.shown(rows, row, value), [told and word != "left", told and word == "left"])

    def test_any_values(self):
        for value in ODD:
            same(self, self.shown(EXAMPLE, 10, value), [False, False])
            for reason in (("removed", 0, 4, 5), ("left", 2, 8, 9)):
                for at in range(4):
                    if value != reason[at]:
                        same(self, self.shown(EXAMPLE, 10, reason[:at] + (value,) + reason[at + 1:]), [False, False])

    def test_versions_that_were_in_the_slot_before(self):
        rows = TWO_COMMITS + (("clean", 0, (0,), (1,)), ("sweep",), ("open", 3, None), ("change", 3, 0, 1, 0, 0, "c"),
                              ("commit", 3), ("clean", 0, (), ()), ("clean", 0, (1,), (0,)))
        for value in (("left", 0, 1, 2), ("left", 0, 4, 5)):
            same(self, self.shown(rows, 11, value), [False, False])
        for value in (("removed", 0, 4, 5), ("marked", 0, 1, 2)):
            same(self, self.shown(rows, 12, value), [False, False])
        # Behind a tidy row likewise.
        rows = TWO_COMMITS + (("tidy", 0, (0,)), ("clean", 0, (), (1,)))
        same(self, self.shown(rows, 7, ("left", 0, 4, 5)), [False, False])
        same(self, self.shown(rows, 7, ("removed", 0, 4, 5)), [False, False])

    def test_fates_ahead_of_the_row(self):
        # The commit behind the cleaning, and an aborted maker.
        rows = TWO_COMMITS[:5] + (("clean", 0, (), (0,)), ("commit", 2), ("clean", 0, (), ()))
        for commit in (5, 6):
            same(self, self.shown(rows, 5, ("left", 0, 4, commit)), [False, False])
        same(self, self.shown(rows, 7, ("left", 0, 4, 6)), [False, True])
        rows = TWO_COMMITS[:5] + (("abort", 2), ("clean", 0, (1,), (0,)))
        for commit in (5, 6):
            for value in (("removed", 1, 4, commit), ("left", 0, 4, commit), ("marked", 1, 4, commit)):
                same(self, self.shown(rows, 6, value), [False, False])

    def test_old_ones_are_left_without_a_reason(self):
        rows = TWO_COMMITS[:3] + (("clean", 0, (), (0,)), ("clean", 0, (), ()))
        same(self, [self.shown(rows, row, ("left", 0, 1, 2)) for row in (3, 4)], [[False, False]] * 2)
        rows = TWO_COMMITS[:3] + (("clean", 0, (), ()), ("clean", 0, (), (0,)))
        same(self, [self.shown(rows, row, ("left", 0, 1, 2)) for row in (3, 4)], [[False, True], [False, False]])

    def test_logs_at_random(self):
        counts = {True: 0, False: 0}
        for seed in range(30):
            rng = random.Random(seed)
            rows = any_log(rng, 40) if seed % 2 else crowd(seed, 50).store.log
            pasts = pasts_of(rows)
            for row in [index for index, told in enumerate(rows) if told[0] in ("clean", "tidy")][-4:]:
                found = reasons_of(rows, row, pasts)
                for _ in range(40):
                    value = (rng.choice(("removed", "marked", "left")), rng.randrange(8), rng.randrange(row + 1),
                             rng.randrange(row + 1))
                    if found and rng.random() < 0.8:
                        reason = rng.choice(sorted(found))
                        at = rng.randrange(4)
                        value = reason[:at] + (value[at],) + reason[at + 1:]
                    told = value in found
                    counts[told] += 1
                    self.assertEqual(self.shown(rows, row, value),
                                     [told and value[0] != "left", told and value[0] == "left"])
        self.assertGreater(min(counts.values()), 100, counts)
