import unittest

from samples import ODD_NUMBERS, ODD_VALUES, raised, same
from whoheld.errors import InvalidRow, NoNumber
from whoheld.fates import Fates

EXAMPLE = (("open", 1, None), ("open", 2, 1), ("commit", 2), ("commit", 1))
DEEDS = (
    ("put", 0, 0, "k", "v"), ("change", 0, 0, 0, 1, "v"), ("strike", 0, 0), ("lock", 0, 0), ("refused", 0, 0),
)
FREE_ROWS = (("clean", 0, (), ()), ("tidy", 0, (0,)), ("sweep",), ("word", None), ("word", 0), ("fall",))
# A family in which each kind of fate occurs: 2 commits into 1, 3 is aborted, 4 is aborted with 5 in it.
FAMILY = (
    ("open", 1, None), ("open", 2, 1), ("commit", 2), ("open", 3, 1), ("abort", 3),
    ("open", 4, 1), ("open", 5, 4), ("commit", 5), ("abort", 4),
)


def deeds_of(number):
    return [(deed[0], number) + deed[1:] for deed in DEEDS]


def facts(fates):
    """All that can be asked of fates."""
    told = [len(fates), fates.numbers, fates.outers, fates.greatest, fates.open_numbers()]
    for number in fates.numbers:
        told.append((
            fates.outer_of(number), fates.top_of(number), fates.family(number), fates.first(number),
            fates.prepared(number), fates.fate(number), fates.end(number), fates.commit_of(number),
            fates.acting(number),
        ))
        for at in range(fates.first(number) + 1, len(fates) + 1):
            told.append((fates.fate(number, at=at), fates.commit_of(number, at=at)))
    return told


class FatesCase(unittest.TestCase):
    def accepts(self, fates, *rows):
        for row in rows:
            before = len(fates)
            self.assertIs(fates.may_take(row), True, row)
            self.assertIsNone(fates.take(row))
            self.assertEqual(len(fates), before + 1)

    def refuses(self, fates, *rows):
        before = facts(fates)
        for row in rows:
            self.assertIs(fates.may_take(row), False, row)
            self.assertEqual(raised(self, InvalidRow, fates.take, row).index, len(fates))
            self.assertEqual(facts(fates), before)


class AnswersTest(FatesCase):
    def test_no_rows(self):
        fates = Fates()
        same(self, facts(fates), [0, (), (), 0, ()])

    def test_the_example(self):
        fates = Fates(*EXAMPLE)
        same(self, fates.fate(2), ("committed", 3))
        same(self, fates.fate(2, at=3), ("open", None))

    def test_fate_at_every_row(self):
        fates = Fates(*EXAMPLE)
        self.assertEqual([fates.fate(1, at=at)[0] for at in (1, 2, 3, 4)], ["open", "open", "open", "committed"])
        self.assertEqual([fates.commit_of(2, at=at) for at in (2, 3, 4)], [None, None, 3])
        self.assertEqual([fates.commit_of(2), fates.commit_of(2, at=None), fates.fate(2, at=None)], [3, 3, ("committed", 3)])

    def test_numbers(self):
        fates = Fates(*FAMILY, ("open", 6, None))
        same(self, [fates.numbers, fates.outers, fates.greatest], [(1, 2, 3, 4, 5, 6), (1, 6), 6])
        self.assertEqual([fates.outer_of(number) for number in fates.numbers], [None, 1, 1, 1, 4, None])
        self.assertEqual([fates.top_of(number) for number in fates.numbers], [1, 1, 1, 1, 1, 6])
        self.assertEqual([fates.first(number) for number in fates.numbers], [0, 1, 3, 5, 6, 9])
        self.assertEqual([fates.family(number) for number in (1, 5, 6)], [(1, 2, 3, 4, 5), (1, 2, 3, 4, 5), (6,)])

    def test_families_that_alternate(self):
        fates = Fates(
            ("open", 1, None), ("open", 2, None), ("open", 3, 1), ("open", 4, 2), ("commit", 4), ("open", 5, 3),
        )
        self.assertEqual([fates.family(1), fates.family(4)], [(1, 3, 5), (2, 4)])
        self.assertEqual([fates.acting(number) for number in fates.numbers], [5, 2, 5, 2, 5])

    def test_fates_within_a_family(self):
        fates = Fates(*FAMILY)
        self.assertEqual(
            [fates.fate(number) for number in fates.numbers],
            [("open", None), ("open", None), ("aborted", 4), ("aborted", 8), ("aborted", 8)],
        )
        self.assertEqual(fates.open_numbers(), (1, 2))
        fates.take(("commit", 1))
        self.assertEqual(
            [fates.fate(number) for number in fates.numbers],
            [("committed", 9), ("committed", 9), ("aborted", 4), ("aborted", 8), ("aborted", 8)],
        )
        self.assertEqual(fates.open_numbers(), ())
        self.assertEqual([fates.commit_of(number) for number in fates.numbers], [9, 9, None, None, None])

    def test_an_abort_ends_what_was_committed_within(self):
        fates = Fates(*FAMILY, ("abort", 1))
        self.assertEqual(
            [fates.fate(number) for number in fates.numbers],
            [("aborted", 9), ("aborted", 9), ("aborted", 4), ("aborted", 8), ("aborted", 8)],
        )
        self.assertEqual([fates.end(number) for number in fates.numbers], [9] * 5)
        self.assertEqual([fates.fate(2, at=at)[0] for at in (9, 10)], ["open", "aborted"])

    def test_end(self):
        fates = Fates(("open", 1, None), ("open", 2, 1), ("abort", 2))
        self.assertEqual([fates.end(1), fates.end(2)], [3, 3])
        fates.take(("commit", 1))
        fates.take(("fall",))
        self.assertEqual([fates.end(1), fates.end(2)], [3, 3])
        fates.take(("open", 3, None))
        fates.take(("abort", 3))
        fates.take(("sweep",))
        self.assertEqual(fates.end(3), 6)

    def test_acting(self):
        fates = Fates(("open", 1, None), ("open", 2, 1), ("open", 3, 2))
        self.assertEqual([fates.acting(number) for number in (1, 2, 3)], [3, 3, 3])
        fates.take(("abort", 3))
        self.assertEqual([fates.acting(number) for number in (1, 2, 3)], [2, 2, 2])
        fates.take(("commit", 2))
        self.assertEqual(fates.acting(3), 1)
        fates.take(("commit", 1))
        self.assertEqual([fates.acting(number) for number in (1, 2, 3)], [None, None, None])

    def test_no_number_for_any_value(self):
        fates = Fates(*FAMILY)
        for value in tuple(value for value in ODD_NUMBERS if value != 1) + (6, True, "1", (1,), [1]):
            self.assertIs(value in fates, False)
            for ask in (
                fates.outer_of, fates.top_of, fates.family, fates.first, fates.prepared, fates.fate, fates.end,
                fates.commit_of, fates.acting,
            ):
                self.assertIs(raised(self, NoNumber, ask, value).number, value)
                self.assertIs(raised(self, NoNumber, ask, number=value).number, value)
            self.assertIs(raised(self, NoNumber, fates.fate, value, at=3).number, value)
            self.assertIs(raised(self, NoNumber, fates.commit_of, value, at=3).number, value)

    def test_numbers_are_in_fates(self):
        fates = Fates(*FAMILY)
        self.assertEqual([number in fates for number in range(-1, 8)], [False] * 2 + [True] * 5 + [False] * 2)
        self.assertIs(1 in fates, True)

    def test_at_is_passed_by_name(self):
        raised(self, TypeError, Fates(*EXAMPLE).fate, 2, 3)
        raised(self, TypeError, Fates(*EXAMPLE).commit_of, 2, 3)

    def test_twins_go_on_apart(self):
        one = Fates(*FAMILY)
        other = one.twin()
        self.assertEqual(facts(one), facts(other))
        before = facts(one)
        self.accepts(other, ("open", 6, 1), ("open", 7, None), ("prepare", 7, 10), ("commit", 7), ("commit", 6))
        self.accepts(other, ("abort", 1), ("open", 8, None), ("fall",))
        self.assertEqual(facts(one), before)
        after = facts(other)
        self.accepts(one, ("commit", 1), ("open", 6, None), ("fall",))
        self.assertEqual(facts(other), after)
        self.assertEqual([one.fate(2), other.fate(2)], [("committed", 9), ("aborted", 14)])


    def test_a_twin_knows_all_that_was_prepared_and_ended(self):
        rows = FAMILY + (
            ("open", 6, None), ("prepare", 6, 9), ("open", 7, None), ("prepare", 7, 0), ("commit", 7), ("commit", 1),
            ("open", 8, None), ("fall",),
        )
        one = Fates(*rows)
        other = one.twin()
        self.assertEqual(facts(one), facts(other))
        self.assertEqual([other.prepared(6), other.end(7), other.end(1), other.end(8)], [(10, 9), 13, 14, 16])
        self.refuses(other, ("commit", 7), ("abort", 1), ("commit", 8))
        self.accepts(other, ("commit", 6))
        self.assertEqual([one.fate(6), other.fate(6)], [("open", None), ("committed", 17)])


class RulesTest(FatesCase):
    def test_values_that_are_no_rows(self):
        self.refuses(Fates(), *ODD_VALUES)
        self.refuses(Fates(*FAMILY), ["sweep"], ("open", True, None), ("open", 6, 6), ("commit", "1"), ("tidy", 0, ()))

    def test_the_index_of_the_first_wrong_row(self):
        for at in range(len(FAMILY)):
            for wrong in (("commit", 9), None, ("open", at + 40, None)):
                rows = FAMILY[:at] + (wrong,) + FAMILY[at + 1:]
                self.assertEqual(raised(self, InvalidRow, Fates, *rows).index, at)
        self.assertEqual(raised(self, InvalidRow, Fates, ["fall"]).index, 0)
        self.assertEqual(raised(self, InvalidRow, Fates, ("fall",), ("sweep",), 5).index, 2)

    def test_open_rows_count_on(self):
        fates = Fates()
        self.refuses(fates, ("open", 2, None), ("open", 0, None), ("open", 3, None), ("open", 2, 1))
        self.accepts(fates, ("open", 1, None))
        self.refuses(fates, ("open", 1, None), ("open", 3, None))
        self.accepts(fates, ("open", 2, None), ("abort", 2), ("fall",))
        self.refuses(fates, ("open", 1, None), ("open", 2, None), ("open", 4, None))
        self.accepts(fates, ("open", 3, None))

    def test_three_inner_ones_within_one_another(self):
        fates = Fates()
        self.accepts(fates, ("open", 1, None), ("open", 2, 1), ("open", 3, 2), ("open", 4, 3))
        self.refuses(fates, ("open", 5, 4), ("open", 5, 3), ("open", 5, 1))
        self.accepts(fates, ("commit", 4), ("open", 5, 3))
        self.refuses(fates, ("open", 6, 5))
        self.accepts(fates, ("abort", 5), ("abort", 3), ("open", 6, 2), ("open", 7, 6), ("open", 8, None))
        self.accepts(fates, ("open", 9, 8), ("open", 10, 9), ("open", 11, 10))
        self.refuses(fates, ("open", 12, 11), ("open", 12, 7))

    def test_the_outer_is_the_innermost_running_one(self):
        fates = Fates(("open", 1, None), ("open", 2, 1))
        self.refuses(fates, ("open", 3, 1))
        self.accepts(fates, ("open", 3, 2))
        self.refuses(fates, ("open", 4, 1), ("open", 4, 2))
        self.accepts(fates, ("commit", 3), ("abort", 2))
        self.refuses(fates, ("open", 4, 2), ("open", 4, 3))
        self.accepts(fates, ("open", 4, 1), ("commit", 4), ("commit", 1))
        self.refuses(fates, ("open", 5, 1), ("open", 5, 4))
        self.accepts(fates, ("open", 5, None), ("prepare", 5, 0))
        self.refuses(fates, ("open", 6, 5))
        self.accepts(fates, ("open", 6, None), ("fall",))
        self.refuses(fates, ("open", 7, 6))

    def test_deeds_name_the_innermost_running_one(self):
        fates = Fates()
        self.refuses(fates, *deeds_of(1))
        self.accepts(fates, ("open", 1, None), *deeds_of(1))
        self.accepts(fates, ("open", 2, 1))
        self.refuses(fates, *deeds_of(1), *deeds_of(3))
        self.accepts(fates, ("open", 3, None), *deeds_of(2), *deeds_of(3))
        self.accepts(fates, ("commit", 2), *deeds_of(1))
        self.refuses(fates, *deeds_of(2))
        self.accepts(fates, ("commit", 1), ("abort", 3))
        self.refuses(fates, *deeds_of(1), *deeds_of(2), *deeds_of(3))
        self.accepts(fates, ("open", 4, None), ("prepare", 4, 0))
        self.refuses(fates, *deeds_of(4))
        self.accepts(fates, ("open", 5, None), ("open", 6, 5), ("fall",))
        self.refuses(fates, *deeds_of(4), *deeds_of(5), *deeds_of(6))

    def test_commits_and_aborts_of_the_innermost_running_one(self):
        for word in ("commit", "abort"):
            fates = Fates()
            self.refuses(fates, (word, 1))
            self.accepts(fates, ("open", 1, None), ("open", 2, 1), ("open", 3, 2))
            self.refuses(fates, (word, 1), (word, 2), (word, 4))
            self.accepts(fates, (word, 3))
            self.refuses(fates, (word, 1), (word, 3))
            self.accepts(fates, (word, 2), (word, 1))
            self.refuses(fates, (word, 1), (word, 2), (word, 3))
            self.accepts(fates, ("open", 4, None), ("open", 5, 4), ("fall",))
            self.refuses(fates, (word, 4), (word, 5))

    def test_only_outer_ones_are_prepared(self):
        fates = Fates(("open", 1, None), ("open", 2, 1))
        self.refuses(fates, ("prepare", 2, 0), ("prepare", 1, 0), ("prepare", 3, 0))
        self.accepts(fates, ("commit", 2))
        self.refuses(fates, ("prepare", 2, 0))
        self.accepts(fates, ("prepare", 1, 0))
        self.refuses(fates, ("prepare", 1, 0), ("prepare", 2, 0))
        self.accepts(fates, ("commit", 1))
        self.refuses(fates, ("prepare", 1, 0))

    def test_the_view_of_a_prepare_row(self):
        fates = Fates(("sweep",), ("sweep",), ("open", 1, None), ("sweep",), ("sweep",), ("open", 2, None))
        self.refuses(fates, ("prepare", 1, 3), ("prepare", 1, 6), ("prepare", 2, 6), ("prepare", 1, 999999))
        one, other = fates.twin(), fates.twin()
        self.accepts(one, ("prepare", 1, 2), ("prepare", 2, 5))
        self.accepts(other, ("prepare", 1, 0), ("prepare", 2, 1))
        same(self, [one.prepared(1), one.prepared(2), other.prepared(1)], [(6, 2), (7, 5), (6, 0)])

    def test_prepared(self):
        fates = Fates(("open", 1, None), ("open", 2, 1), ("abort", 2), ("open", 3, 1), ("commit", 3))
        self.assertEqual([fates.prepared(number) for number in (1, 2, 3)], [None, None, None])
        fates.take(("prepare", 1, 0))
        self.assertEqual([fates.prepared(number) for number in (1, 2, 3)], [(5, 0)] * 3)
        self.assertEqual([fates.fate(1), fates.fate(2), fates.fate(3)], [("open", None), ("aborted", 2), ("open", None)])
        self.assertEqual([fates.open_numbers(), fates.acting(1), fates.acting(2)], [(1, 3), None, None])
        fates.take(("commit", 1))
        self.assertEqual([fates.prepared(1), fates.fate(3), fates.end(2)], [(5, 0), ("committed", 6), 6])

    def test_a_prepared_one_ends_once(self):
        for first in ("commit", "abort"):
            fates = Fates(("open", 1, None), ("prepare", 1, 0))
            self.assertEqual(fates.end(1), 2)
            self.accepts(fates, (first, 1))
            self.refuses(fates, ("commit", 1), ("abort", 1), ("prepare", 1, 0))
            self.assertEqual(fates.fate(1), ({"commit": "committed", "abort": "aborted"}[first], 2))
            self.assertEqual([fates.end(1), fates.open_numbers()], [2, ()])

    def test_a_fall_aborts_what_runs(self):
        fates = Fates(
            ("open", 1, None), ("open", 2, 1), ("commit", 2), ("open", 3, 1), ("abort", 3), ("open", 4, 1),
            ("open", 5, None), ("prepare", 5, 6), ("open", 6, None), ("commit", 6), ("open", 7, None), ("abort", 7),
            ("fall",),
        )
        self.assertEqual(
            [fates.fate(number) for number in fates.numbers],
            [("aborted", 12), ("aborted", 12), ("aborted", 4), ("aborted", 12), ("open", None), ("committed", 9),
             ("aborted", 11)],
        )
        self.assertEqual([fates.end(number) for number in fates.numbers], [12, 12, 12, 12, 13, 9, 11])
        self.assertEqual([fates.acting(number) for number in fates.numbers], [None] * 7)
        self.assertEqual(fates.open_numbers(), (5,))
        self.refuses(fates, ("commit", 1), ("abort", 4))
        self.accepts(fates, ("fall",), ("commit", 5), ("fall",))
        self.assertEqual([fates.fate(1), fates.fate(5), fates.end(1)], [("aborted", 12), ("committed", 14), 12])

    def test_word_rows(self):
        fates = Fates()
        self.refuses(fates, ("word", 1), ("word", 999999))
        self.accepts(fates, ("word", 0), ("word", 1), ("word", None))
        self.refuses(fates, ("word", 4))
        self.accepts(fates, ("word", 3), ("word", 0), ("word", 4))
        self.refuses(fates, ("word", 7))

    def test_rows_without_numbers_may_always_stand(self):
        for rows in ((), FAMILY, FAMILY + (("fall",),), EXAMPLE):
            self.accepts(Fates(*rows), *FREE_ROWS)

    def test_arguments_by_name(self):
        fates = Fates()
        self.assertIs(fates.may_take(row=("fall",)), True)
        self.assertIsNone(fates.take(row=("open", 1, None)))
        self.assertEqual([fates.first(number=1), fates.fate(number=1, at=1)], [0, ("open", None)])
