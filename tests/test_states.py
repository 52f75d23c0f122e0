import unittest

from samples import BEGINNING, ODD_NUMBERS, ODD_PLACES, ODD_VALUES, TWO_COMMITS, letters, puts, raised, same, version
from whoheld.errors import InvalidRow, NoPage, NoSlot
from whoheld.fates import Fates
from whoheld.pages import empty_pages
from whoheld.states import State

# An open, an inner, a committed, a prepared, an aborted and a fallen family, and what they made.
FAMILIES = (
    ("open", 1, None), ("put", 1, 0, 0, "a", "x"), ("put", 1, 0, 1, "b", "x"), ("commit", 1),
    ("open", 2, None), ("change", 2, 0, 0, 0, 2, "y"), ("abort", 2),
    ("open", 3, None), ("put", 3, 0, 3, "c", "x"), ("fall",),
    ("open", 4, None), ("put", 4, 0, 4, "d", "x"), ("prepare", 4, 10),
    ("open", 5, None), ("open", 6, 5), ("change", 6, 0, 1, 0, 5, "z"), ("commit", 6),
    ("open", 7, 5), ("put", 7, 0, 6, "e", "x"), ("abort", 7),
)


class StateCase(unittest.TestCase):
    def facts(self, state):
        fates = state.fates()
        told = [state.rows, state.pages, state.word_in_force, state.stubs, len(state), repr(state)]
        told.append([(fates.fate(number), fates.end(number), fates.acting(number)) for number in fates.numbers])
        return told

    def refuses(self, state, *rows):
        before = self.facts(state)
        for row in rows:
            self.assertIs(state.can_stand(row), False, row)
            error = raised(self, InvalidRow, state.apply, row)
            same(self, error.index, len(state))
            self.assertEqual(self.facts(state), before)

    def accepts(self, state, *rows):
        for row in rows:
            self.assertIs(state.can_stand(row), True, row)
            self.assertIsNone(state.apply(row))
            self.assertEqual(state.rows[-1], row)

    def after(self, *rows):
        return State.of(rows)


class AskingTest(StateCase):
    def test_the_empty_state(self):
        state = State()
        same(self, [state.rows, state.pages, state.word_in_force, state.stubs], [(), empty_pages(), None, 0])
        self.assertEqual([len(state), repr(state), len(state.fates())], [0, "State(0 rows, 0 versions, 0 stubs)", 0])

    def test_the_example(self):
        state = State.of((("open", 1, None), ("put", 1, 0, 0, "k", "a"), ("commit", 1), ("open", 2, None)))
        self.assertIsNone(state.apply(("strike", 2, 0, 0)))
        same(self, state[0, 0], ("version", "k", "a", 1, 2, False, ()))
        same(self, [state.made_at(0, 0), state.ended_at(0, 0), state.standing("k", 2), state.doubts("k", 3)],
             [2, None, None, (2,)])
        self.refuses(state, ("put", 2, 0, 2, "m", "b"))
        self.assertEqual(raised(self, InvalidRow, state.apply, ("put", 2, 0, 2, "m", "b")).index, 5)

    def test_the_index_of_the_first_invalid_value(self):
        for at in range(len(FAMILIES) + 1):
            for wrong in (None, (), ("sweep",), ["fall"], ("put", 9, 0, 0, "k", "v"), ("word", 100)):
                rows = FAMILIES[:at] + (wrong,) + FAMILIES[at:]
                self.assertEqual(raised(self, InvalidRow, State.of, rows).index, at)
        self.assertEqual(raised(self, InvalidRow, State.of, rows=ODD_VALUES).index, 0)
        self.assertEqual(State.of(rows=FAMILIES).rows, FAMILIES)
        self.assertEqual(State.of(()).rows, ())

    def test_no_row(self):
        for rows in ((), FAMILIES):
            self.refuses(State.of(rows), *ODD_VALUES)
        self.refuses(State.of(FAMILIES), ["fall"], ("clean", 0, (True,), ()), ("open", 8, 9), ("tidy", 0, ()))

    def test_properties_are_up_to_date(self):
        state = State()
        for at, row in enumerate(TWO_COMMITS):
            self.assertEqual((state.rows, len(state)), (TWO_COMMITS[:at], at))
            state.apply(row)
        self.assertEqual(repr(state), "State(6 rows, 2 versions, 0 stubs)")
        state.apply(("clean", 0, (0,), (1,)))
        self.assertEqual([repr(state), state.stubs], ["State(7 rows, 1 versions, 1 stubs)", 1])

    def test_fates_are_a_copy(self):
        state = self.after(*BEGINNING)
        fates = state.fates()
        self.assertIsInstance(fates, Fates)
        self.assertEqual([len(fates), fates.fate(2), fates.numbers], [6, ("committed", 5), (1, 2)])
        fates.take(("open", 3, None))
        self.assertEqual(state.fates().greatest, 2)
        state.apply(("fall",))
        self.assertEqual([len(fates), fates.acting(3)], [7, 3])

    def test_images_in_brackets(self):
        state = self.after(*BEGINNING)
        same(self, state[0, 0], version("a", "x", 1))
        same(self, state[(0, 1)], version("b", "y", 2))
        self.assertIsNone(state[7, 7])
        same(self, state[0], (version("a", "x", 1), version("b", "y", 2)) + (None,) * 6)
        same(self, state[7], (None,) * 8)
        self.assertEqual(tuple(state[page] for page in range(8)), state.pages)

    def test_no_page_and_no_slot_for_any_value(self):
        state = self.after(*BEGINNING)
        for value in ODD_PLACES:
            if isinstance(value, tuple) and len(value) == 2:
                continue
            self.assertIs(raised(self, NoPage, lambda: state[value]).page, value)
            for other in (0, 8, None, value):
                self.assertIs(raised(self, NoPage, lambda: state[value, other]).page, value)
            self.assertIs(raised(self, NoSlot, lambda: state[0, value]).slot, value)
            self.assertIs(raised(self, NoSlot, lambda: state[7, value]).slot, value)

    def test_what_is_not_a_pair_is_a_page(self):
        state = self.after(*BEGINNING)
        for value in ((), (0,), (0, 0, 0), [0, 0], "00", ((0, 0),), {0: 0, 1: 1}, {}):
            self.assertIs(raised(self, NoPage, lambda: state[value]).page, value)
        self.assertEqual(raised(self, NoPage, lambda: state[(0, 0), 0]).page, (0, 0))

    def test_a_state_is_not_iterated_over(self):
        raised(self, TypeError, lambda: list(State()))

    def test_entries_of(self):
        state = self.after(*TWO_COMMITS)
        same(self, [state.entries_of("k"), state.entries_of("a")], [((0, 0), (0, 1)), ()])
        state.apply(("clean", 0, (0,), (1,)))
        same(self, state.entries_of(key="k"), ((0, 0), (0, 1)))
        state.apply(("sweep",))
        same(self, state.entries_of("k"), ((0, 1),))
        far = self.after(("open", 1, None), *puts(1, 0, letters(17)), ("put", 1, 2, 1, "zz", "v"))
        self.assertEqual([far.entries_of("aq"), far.entries_of("zz")], [((2, 0),), ((2, 1),)])

    def test_commits_of_makers_and_enders(self):
        state = self.after(*FAMILIES)
        self.assertEqual([state.made_at(0, slot) for slot in range(8)], [3, 3, None, None, None, None, None, None])
        self.assertEqual([state.ended_at(0, slot) for slot in range(8)], [None] * 8)
        self.assertEqual([state.is_dead(0, slot) for slot in range(8)],
                         [False, False, True, True, False, False, True, False])
        state.apply(("commit", 5))
        self.assertEqual([state.made_at(0, slot) for slot in range(8)], [3, 3, None, None, None, 20, None, None])
        self.assertEqual([state.ended_at(0, slot) for slot in range(8)], [None, 20] + [None] * 6)
        self.assertEqual([state.is_dead(0, slot) for slot in range(8)],
                         [False, True, True, True, False, False, True, False])
        state.apply(("clean", 0, (1, 2, 3, 6), (0, 5)))
        self.assertEqual([state.ended_at(0, 1), state.made_at(0, 1), state.is_dead(0, 1)], [None, None, False])
        self.assertEqual([state.made_at(page=0, slot=0), state.ended_at(page=7, slot=7), state.is_dead(page=0, slot=4)],
                         [3, None, False])

    def test_a_prepared_maker_is_open(self):
        state = self.after(*FAMILIES)
        self.assertEqual([state.made_at(0, 4), state.is_dead(0, 4)], [None, False])
        state.apply(("commit", 4))
        self.assertEqual([state.made_at(0, 4), state.is_dead(0, 4)], [20, False])

    def test_places_somewhat_beyond_raise_no_error(self):
        state = self.after(*FAMILIES)
        self.assertEqual([state.made_at(8, 0), state.ended_at(0, 8), state.is_dead(9, 9)], [None, None, False])
        self.assertEqual([state.cleaned(8, 3), state.is_plain(8)], [((), ()), False])

    def test_standing(self):
        state = self.after(*FAMILIES)
        for number in (1, 2, 3, 4, 99, None, 8, 0):
            same(self, state.standing("a", number), (0, 0))
            same(self, state.standing("b", number), None)
            same(self, state.standing("c", number), None)
            same(self, state.standing("e", number), None)
        for number in (5, 6, 7):
            same(self, state.standing("b", number), (0, 5))
            same(self, state.standing("a", number), (0, 0))
        self.assertEqual([state.standing("d", number) for number in (4, 5, None)], [(0, 4), None, None])
        state.apply(("commit", 5))
        for number in (1, 4, 5, 6, 7, 99, None):
            same(self, state.standing("b", number), (0, 5))
        self.assertEqual(state.standing(key="z", number=1), None)

    def test_stubs_do_not_stand(self):
        state = self.after(*TWO_COMMITS, ("clean", 0, (0,), (1,)), ("open", 3, None), ("strike", 3, 0, 1), ("commit", 3))
        same(self, [state.standing("k", None), state.doubts("k", None)], [None, ()])
        self.accepts(state, ("tidy", 0, (1,)), ("open", 4, None), ("put", 4, 0, 2, "k", "c"))
        same(self, [state.standing("k", None), state.standing("k", 4), state.doubts("k", None)], [None, (0, 2), (4,)])

    def test_has_own(self):
        state = self.after(*FAMILIES)
        table = {key: [number for number in (None, 1, 2, 3, 4, 5, 6, 7, 8, 0) if state.has_own(key, number)]
                 for key in "abcdez"}
        self.assertEqual(table, {"a": [1], "b": [1, 5, 6, 7], "c": [], "d": [4], "e": [], "z": []})
        self.assertIs(state.has_own(key="a", number=1), True)
        self.assertIs(state.has_own("a", None), False)
        # A stub is not a version any more.
        state.apply(("commit", 5))
        state.apply(("tidy", 0, (1,)))
        self.assertEqual([state.has_own("b", 1), state.has_own("b", 7)], [False, True])

    def test_doubts(self):
        state = self.after(*FAMILIES)
        for number in (1, 2, 3, 4, 8, 0, None):
            same(self, [state.doubts(key, number) for key in "abce"], [(), (5,), (), ()])
        for number in (5, 6, 7):
            same(self, [state.doubts(key, number) for key in "abcde"], [(), (), (), (4,), ()])
        self.assertEqual([state.doubts("d", number) for number in (4, None, 1)], [(), (4,), (4,)])
        state.apply(("abort", 5))
        self.assertEqual([state.doubts("b", None), state.standing("b", None)], [(), (0, 1)])
        self.assertEqual(state.doubts(key="z", number=None), ())

    def test_doubts_are_told_once_and_ascending(self):
        state = self.after(
            ("open", 1, None), ("put", 1, 0, 0, "a", "x"), ("commit", 1), ("open", 2, None), ("open", 3, 2),
            ("change", 3, 0, 0, 0, 1, "y"), ("commit", 3), ("change", 2, 0, 1, 0, 2, "z"),
        )
        same(self, state.doubts("a", None), (2,))
        self.assertEqual([state.doubts("a", 3), state.doubts("a", 1)], [(), (2,)])

    def test_an_aborted_number_has_the_own_numbers_of_its_family(self):
        state = self.after(*FAMILIES, ("open", 8, 5), ("abort", 8))
        self.assertEqual([state.standing("b", 8), state.doubts("b", 8), state.has_own("b", 8)], [(0, 5), (), True])

    def test_odd_numbers_are_families_by_themselves(self):
        state = self.after(*FAMILIES)
        for value in ODD_NUMBERS:
            if value != 1:
                self.assertEqual([state.standing("b", value), state.doubts("b", value)], [None, (5,)])
                self.assertIs(state.has_own("b", value), False)
        self.assertIs(state.has_own("a", True), False)

    def test_twins_go_on_apart(self):
        one = self.after(*FAMILIES, ("word", 3))
        other = one.twin()
        self.assertEqual(self.facts(one), self.facts(other))
        before = self.facts(one)
        for row in (("commit", 5), ("fall",), ("clean", 0, (1, 2, 3, 6), (0, 5)), ("sweep",), ("open", 8, None)):
            other.apply(row)
        self.assertEqual(self.facts(one), before)
        self.assertEqual([one.word_in_force, other.word_in_force], [3, None])
        after = self.facts(other)
        for row in (("abort", 5), ("abort", 4), ("open", 8, None), ("lock", 8, 0, 0)):
            one.apply(row)
        self.assertEqual(self.facts(other), after)
        self.assertEqual([one[0, 0][6], other[0, 0][6]], [(8,), ()])


class PutTest(StateCase):
    def test_a_put(self):
        state = self.after(("open", 1, None))
        self.accepts(state, ("put", 1, 0, 0, "k", "v"))
        same(self, state[0, 0], version("k", "v", 1))

    def test_only_the_innermost_running_one(self):
        state = self.after(("open", 1, None), ("open", 2, 1), ("open", 3, None), ("commit", 3))
        self.refuses(state, ("put", 1, 0, 0, "k", "v"), ("put", 3, 0, 0, "k", "v"), ("put", 4, 0, 0, "k", "v"))
        self.accepts(state, ("put", 2, 0, 0, "k", "v"))

    def test_the_least_free_slot(self):
        state = self.after(("open", 1, None), *puts(1, 0, letters(3)))
        wrong = [("put", 1, page, slot, "k", "v") for page in range(8) for slot in range(8) if (page, slot) != (0, 3)]
        self.refuses(state, *wrong)
        self.accepts(state, ("put", 1, 0, 3, "k", "v"))

    def test_the_next_page_when_one_is_full(self):
        state = self.after(("open", 1, None), *puts(1, 0, letters(8)))
        self.refuses(state, ("put", 1, 0, 7, "k", "v"), ("put", 1, 1, 1, "k", "v"), ("put", 1, 2, 0, "k", "v"))
        self.accepts(state, ("put", 1, 1, 0, "k", "v"))

    def test_no_slot_is_free(self):
        state = self.after(("open", 1, None), *puts(1, 0, letters(64)), ("commit", 1), ("open", 2, None))
        self.refuses(state, *[("put", 2, page, slot, "k", "v") for page in range(8) for slot in range(8)])
        self.refuses(state, *[("change", 2, 0, 0, page, slot, "v") for page in range(8) for slot in range(8)])
        self.accepts(state, ("strike", 2, 0, 0), ("commit", 2), ("tidy", 0, (0,)), ("open", 3, None))
        self.refuses(state, ("put", 3, 0, 0, "k", "v"))
        self.accepts(state, ("sweep",), ("put", 3, 0, 0, "k", "v"))

    def test_no_version_of_the_key_stands(self):
        state = self.after(*BEGINNING, ("open", 3, None))
        self.refuses(state, ("put", 3, 0, 2, "a", "v"), ("put", 3, 0, 2, "b", "v"))
        self.accepts(state, ("strike", 3, 0, 0), ("put", 3, 0, 2, "a", "v"))
        self.refuses(state, ("put", 3, 0, 3, "a", "v"))
        self.accepts(state, ("strike", 3, 0, 2), ("put", 3, 0, 3, "a", "v"))

    def test_no_version_of_the_key_is_in_doubt(self):
        state = self.after(*BEGINNING, ("open", 3, None), ("strike", 3, 0, 0), ("put", 3, 0, 2, "c", "v"))
        self.accepts(state, ("open", 4, None))
        self.refuses(state, ("put", 4, 0, 3, "a", "v"), ("put", 4, 0, 3, "c", "v"))
        ended, aborted, prepared = state.twin(), state.twin(), state.twin()
        self.accepts(ended, ("commit", 3), ("put", 4, 0, 3, "a", "v"))
        self.refuses(ended, ("put", 4, 0, 4, "c", "v"))
        self.accepts(aborted, ("abort", 3), ("put", 4, 0, 3, "c", "v"))
        self.refuses(aborted, ("put", 4, 0, 4, "a", "v"))
        self.accepts(prepared, ("prepare", 3, 0))
        self.refuses(prepared, ("put", 4, 0, 3, "a", "v"), ("put", 4, 0, 3, "c", "v"))

    def test_what_an_inner_one_did_is_own_until_it_is_aborted(self):
        state = self.after(("open", 1, None), ("open", 2, 1), ("put", 2, 0, 0, "k", "v"))
        inside, gone = state.twin(), state.twin()
        self.accepts(inside, ("commit", 2))
        self.refuses(inside, ("put", 1, 0, 1, "k", "w"))
        self.accepts(gone, ("abort", 2), ("put", 1, 0, 1, "k", "w"))


class EndingTest(StateCase):
    """Change and strike rows."""

    def rows(self, number, spot, due):
        return (("change", number) + spot + due + ("w",), ("strike", number) + spot)

    def test_a_change_and_a_strike(self):
        state = self.after(*BEGINNING, ("open", 3, None))
        self.accepts(state, ("change", 3, 0, 0, 0, 2, "w"), ("strike", 3, 0, 1))
        same(self, [state[0, 0], state[0, 1], state[0, 2]],
             [version("a", "x", 1, 3), version("b", "y", 2, 3), version("a", "w", 3)])

    def test_only_the_innermost_running_one(self):
        state = self.after(*BEGINNING, ("open", 3, None), ("open", 4, 3), ("open", 5, None), ("prepare", 5, 0))
        for number in (1, 2, 3, 5, 6):
            self.refuses(state, *self.rows(number, (0, 0), (0, 2)))

    def test_slots_without_a_version(self):
        state = self.after(*TWO_COMMITS, ("tidy", 0, (0,)), ("open", 3, None))
        self.refuses(state, *self.rows(3, (0, 0), (0, 2)), *self.rows(3, (0, 2), (0, 2)), *self.rows(3, (7, 7), (0, 2)))
        self.accepts(state.twin(), ("strike", 3, 0, 1))
        self.accepts(state, ("change", 3, 0, 1, 0, 2, "w"))

    def test_the_new_version_takes_the_least_free_slot(self):
        state = self.after(*BEGINNING, ("open", 3, None))
        for page in range(8):
            for slot in range(8):
                if (page, slot) != (0, 2):
                    self.refuses(state, ("change", 3, 0, 0, page, slot, "w"))
        # The slot that the change ends is not free.
        self.refuses(state, ("change", 3, 0, 0, 0, 0, "w"))
        self.accepts(state, ("change", 3, 0, 0, 0, 2, "w"))

    def test_a_version_of_an_open_or_aborted_maker(self):
        state = self.after(("open", 1, None), ("put", 1, 0, 0, "k", "v"), ("open", 2, None))
        self.refuses(state, *self.rows(2, (0, 0), (0, 1)))
        aborted, fallen, ended = state.twin(), state.twin(), state.twin()
        self.accepts(aborted, ("abort", 1))
        self.refuses(aborted, *self.rows(2, (0, 0), (0, 1)))
        self.accepts(fallen, ("fall",), ("open", 3, None))
        self.refuses(fallen, *self.rows(3, (0, 0), (0, 1)))
        self.accepts(ended, ("commit", 1), ("strike", 2, 0, 0))

    def test_a_version_with_an_ender(self):
        state = self.after(*BEGINNING, ("open", 3, None), ("open", 4, None), ("strike", 3, 0, 0))
        self.refuses(state, *self.rows(3, (0, 0), (0, 2)), *self.rows(4, (0, 0), (0, 2)))
        ended, aborted = state.twin(), state.twin()
        self.accepts(ended, ("commit", 3))
        self.refuses(ended, *self.rows(4, (0, 0), (0, 2)))
        self.accepts(aborted, ("abort", 3), ("strike", 4, 0, 0))
        same(self, aborted[0, 0], version("a", "x", 1, 4))

    def test_an_aborted_inner_ender(self):
        state = self.after(*BEGINNING, ("open", 3, None), ("open", 4, 3), ("strike", 4, 0, 0), ("abort", 4))
        self.accepts(state, ("change", 3, 0, 0, 0, 2, "w"))
        same(self, state[0, 0], version("a", "x", 1, 3))

    def test_lockers_bar_others_while_they_are_open(self):
        state = self.after(*BEGINNING, ("open", 3, None), ("open", 4, 3), ("lock", 4, 0, 0), ("commit", 4),
                           ("open", 5, None))
        self.refuses(state, *self.rows(5, (0, 0), (0, 2)))
        prepared, ended, aborted = state.twin(), state.twin(), state.twin()
        self.accepts(prepared, ("prepare", 3, 0))
        self.refuses(prepared, *self.rows(5, (0, 0), (0, 2)))
        self.accepts(ended, ("commit", 3), ("strike", 5, 0, 0))
        self.accepts(aborted, ("abort", 3), ("change", 5, 0, 0, 0, 2, "w"))
        self.accepts(state, ("change", 3, 0, 0, 0, 2, "w"))

    def test_an_aborted_inner_locker_bars_nobody(self):
        state = self.after(*BEGINNING, ("open", 3, None), ("open", 4, 3), ("lock", 4, 0, 0), ("abort", 4),
                           ("open", 5, None))
        self.accepts(state, ("strike", 5, 0, 0))

    def test_own_versions_are_ended(self):
        state = self.after(("open", 1, None), ("put", 1, 0, 0, "k", "v"), ("open", 2, 1))
        self.accepts(state, ("change", 2, 0, 0, 0, 1, "w"), ("commit", 2), ("strike", 1, 0, 1))
        same(self, [state[0, 0], state[0, 1]], [version("k", "v", 1, 2), version("k", "w", 2, 1)])


class LockTest(StateCase):
    def test_a_lock(self):
        state = self.after(*BEGINNING, ("open", 3, None), ("open", 4, None))
        self.accepts(state, ("lock", 4, 0, 0), ("lock", 3, 0, 0), ("lock", 3, 0, 1))
        same(self, [state[0, 0], state[0, 1]], [version("a", "x", 1, None, False, (3, 4)), version("b", "y", 2, None, False, (3,))])

    def test_only_the_innermost_running_one(self):
        state = self.after(*BEGINNING, ("open", 3, None), ("open", 4, 3))
        self.refuses(state, ("lock", 3, 0, 0), ("lock", 1, 0, 0), ("lock", 5, 0, 0))

    def test_slots_without_a_version(self):
        state = self.after(*TWO_COMMITS, ("tidy", 0, (0,)), ("open", 3, None))
        self.refuses(state, ("lock", 3, 0, 0), ("lock", 3, 0, 2))
        self.accepts(state, ("lock", 3, 0, 1))

    def test_a_version_that_does_not_stand(self):
        state = self.after(*BEGINNING, ("open", 3, None), ("open", 4, None), ("strike", 3, 0, 0))
        self.refuses(state, ("lock", 3, 0, 0), ("lock", 4, 0, 0))
        ended, aborted = state.twin(), state.twin()
        self.accepts(ended, ("commit", 3))
        self.refuses(ended, ("lock", 4, 0, 0))
        self.accepts(aborted, ("abort", 3), ("lock", 4, 0, 0))

    def test_the_maker_is_committed(self):
        state = self.after(("open", 1, None), ("put", 1, 0, 0, "k", "v"), ("open", 2, 1), ("open", 3, None))
        self.refuses(state, ("lock", 2, 0, 0), ("lock", 3, 0, 0))
        self.accepts(state, ("commit", 2))
        self.refuses(state, ("lock", 1, 0, 0))
        self.accepts(state, ("commit", 1), ("lock", 3, 0, 0))

    def test_no_own_number_has_locked_it(self):
        state = self.after(*BEGINNING, ("open", 3, None), ("lock", 3, 0, 0))
        self.refuses(state, ("lock", 3, 0, 0))
        self.accepts(state, ("open", 4, 3))
        self.refuses(state, ("lock", 4, 0, 0))
        self.accepts(state, ("lock", 4, 0, 1))
        inside, gone = state.twin(), state.twin()
        self.accepts(inside, ("commit", 4))
        self.refuses(inside, ("lock", 3, 0, 1))
        self.accepts(gone, ("abort", 4), ("lock", 3, 0, 1))
        self.assertEqual(gone[0, 1][6], (3, 4))

    def test_locks_of_others_do_not_matter(self):
        state = self.after(*BEGINNING, ("open", 3, None), ("open", 4, None), ("lock", 3, 0, 0))
        self.accepts(state, ("lock", 4, 0, 0), ("commit", 3), ("open", 5, None), ("lock", 5, 0, 0))
        self.assertEqual(state[0, 0][6], (3, 4, 5))


class RefusedTest(StateCase):
    ROWS = TWO_COMMITS[:3] + (("open", 2, None), ("open", 3, None), ("change", 2, 0, 0, 0, 1, "b"))

    def test_a_refused_row(self):
        state = self.after(*self.ROWS)
        self.refuses(state, ("refused", 3, 0, 0), ("refused", 3, 0, 1), ("refused", 2, 0, 0))
        self.accepts(state, ("commit", 2))
        pages = state.pages
        self.accepts(state, ("refused", 3, 0, 0), ("refused", 3, 0, 0))
        self.assertEqual(state.pages, pages)

    def test_only_the_innermost_running_one(self):
        state = self.after(*self.ROWS, ("commit", 2), ("open", 4, 3))
        self.refuses(state, ("refused", 3, 0, 0), ("refused", 2, 0, 0), ("refused", 1, 0, 0), ("refused", 5, 0, 0))
        self.accepts(state, ("refused", 4, 0, 0))

    def test_slots_without_a_version(self):
        state = self.after(*self.ROWS, ("commit", 2), ("tidy", 0, (0,)))
        self.refuses(state, ("refused", 3, 0, 0), ("refused", 3, 0, 5))

    def test_the_ender_is_committed(self):
        state = self.after(*self.ROWS, ("abort", 2))
        self.refuses(state, ("refused", 3, 0, 0), ("refused", 3, 0, 1))
        state = self.after(*self.ROWS, ("prepare", 2, 3))
        self.refuses(state, ("refused", 3, 0, 0))
        self.accepts(state, ("commit", 2))
        self.refuses(state, ("refused", 3, 0, 1))

    def test_the_maker_is_committed(self):
        state = self.after(("open", 1, None), ("put", 1, 0, 0, "k", "v"), ("strike", 1, 0, 0), ("open", 2, None))
        self.refuses(state, ("refused", 2, 0, 0), ("refused", 1, 0, 0))

    def test_the_commit_of_the_maker_is_less(self):
        state = self.after(("open", 1, None), ("put", 1, 0, 0, "k", "v"), ("strike", 1, 0, 0), ("commit", 1),
                           ("open", 2, None))
        self.refuses(state, ("refused", 2, 0, 0))
        state = self.after(("open", 1, None), ("open", 2, 1), ("put", 2, 0, 0, "k", "v"), ("commit", 2),
                           ("strike", 1, 0, 0), ("commit", 1), ("open", 3, None))
        self.refuses(state, ("refused", 3, 0, 0))

    def test_own_versions_hide_those_of_others(self):
        state = self.after(
            ("open", 1, None), ("put", 1, 0, 0, "k", "v"), ("commit", 1), ("open", 2, None), ("open", 3, None),
            ("strike", 2, 0, 0), ("commit", 2), ("open", 4, 3), ("put", 4, 0, 1, "k", "w"),
        )
        self.refuses(state, ("refused", 4, 0, 0))
        inside, gone, ended = state.twin(), state.twin(), state.twin()
        self.accepts(inside, ("commit", 4))
        self.refuses(inside, ("refused", 3, 0, 0))
        self.accepts(gone, ("abort", 4), ("refused", 3, 0, 0))
        self.accepts(ended, ("strike", 4, 0, 1))
        self.refuses(ended, ("refused", 4, 0, 0))

    def test_own_versions_of_other_keys_hide_nothing(self):
        state = self.after(*self.ROWS, ("commit", 2), ("put", 3, 0, 2, "m", "v"), ("refused", 3, 0, 0))
        self.assertEqual(len(state), 9)


class EndsAndViewsTest(StateCase):
    def test_rules_of_numbers(self):
        state = self.after(("open", 1, None), ("open", 2, 1))
        self.refuses(state, ("open", 4, None), ("open", 3, 1), ("open", 2, None), ("commit", 1), ("abort", 1),
                     ("prepare", 2, 0), ("prepare", 1, 0), ("commit", 3), ("abort", 3))
        self.accepts(state, ("abort", 2))
        self.refuses(state, ("prepare", 1, 1), ("commit", 2))
        self.accepts(state.twin(), ("commit", 1))
        self.accepts(state, ("prepare", 1, 0))
        self.refuses(state, ("prepare", 1, 0), ("open", 3, 1), ("put", 1, 0, 0, "k", "v"))
        self.accepts(state, ("fall",), ("abort", 1))
        self.refuses(state, ("abort", 1), ("commit", 1))

    def test_three_inner_ones(self):
        state = self.after(("open", 1, None), ("open", 2, 1), ("open", 3, 2), ("open", 4, 3))
        self.refuses(state, ("open", 5, 4))
        self.accepts(state, ("put", 4, 0, 0, "k", "v"))

    def test_word_rows(self):
        state = State()
        self.refuses(state, ("word", 1))
        self.accepts(state, ("word", 0))
        self.assertEqual(state.word_in_force, 0)
        self.refuses(state, ("word", 2))
        self.accepts(state, ("word", 1), ("fall",))
        self.assertIsNone(state.word_in_force)
        self.accepts(state, ("word", 3))
        self.assertEqual(state.word_in_force, 3)
        self.accepts(state, ("clean", 0, (), ()), ("open", 1, None))
        self.assertEqual(state.word_in_force, 3)
        self.accepts(state, ("word", None))
        self.assertIsNone(state.word_in_force)
        self.accepts(state, ("fall",), ("word", 2), ("word", 1))
        self.assertEqual(state.word_in_force, 1)

    def test_rows_that_leave_the_pages(self):
        state = self.after(*FAMILIES)
        pages = state.pages
        self.accepts(state, ("commit", 5), ("abort", 4), ("open", 8, None), ("open", 9, 8), ("word", 2), ("abort", 9),
                     ("prepare", 8, 0), ("fall",), ("clean", 7, (), ()), ("commit", 8))
        self.assertEqual(state.pages, pages)


class CleaningTest(StateCase):
    def test_the_slots_of_each_horizon(self):
        state = self.after(*TWO_COMMITS)
        for horizon, answer in (
            (0, ((), ())), (2, ((), ())), (3, ((), (0,))), (5, ((), (0,))), (6, ((0,), (1,))), (7, ((0,), (1,))),
            (1000000, ((0,), (1,))),
        ):
            same(self, state.cleaned(0, horizon), answer)
            same(self, state.cleaned(page=0, horizon=horizon), answer)
        same(self, state.cleaned(1, 9), ((), ()))

    def test_a_clean_row_is_valid_for_some_horizon(self):
        for removed, marked in (((), ()), ((), (0,)), ((0,), (1,))):
            self.accepts(self.after(*TWO_COMMITS), ("clean", 0, removed, marked))
        for removed, marked in (
            ((), (1,)), ((), (0, 1)), ((0,), ()), ((1,), ()), ((1,), (0,)), ((0, 1), ()), ((), (2,)), ((2,), ()),
            ((0, 2), (1,)), ((0,), (1, 2)),
        ):
            self.refuses(self.after(*TWO_COMMITS), ("clean", 0, removed, marked))
        self.refuses(self.after(*TWO_COMMITS), ("clean", 1, (0,), (1,)), ("clean", 1, (), (0,)))
        self.accepts(self.after(*TWO_COMMITS), ("clean", 1, (), ()))

    def test_all_slots_are_for_the_same_horizon(self):
        # The commits are 4, 7 and 10: key b is changed first, then key a.
        rows = (
            ("open", 1, None), ("put", 1, 0, 0, "a", "x"), ("put", 1, 0, 1, "b", "x"), ("open", 2, None), ("commit", 1),
            ("change", 2, 0, 1, 0, 2, "y"), ("open", 3, None), ("commit", 2), ("word", None),
            ("change", 3, 0, 0, 0, 3, "y"), ("commit", 3),
        )
        allowed = [self.after(*rows).cleaned(0, horizon) for horizon in range(13)]
        self.assertEqual(sorted(set(allowed)), [((), ()), ((), (0, 1)), ((0, 1), (2, 3)), ((1,), (0, 2))])
        slots = [tuple(slot for slot in range(4) if bits & (1 << slot)) for bits in range(16)]
        for removed in slots:
            for marked in slots:
                if not set(removed) & set(marked):
                    row = ("clean", 0, removed, marked)
                    self.assertIs(self.after(*rows).can_stand(row), (removed, marked) in allowed, row)

    def test_commits_that_follow_one_another(self):
        # The commits are 3, 8 and 9: a horizon of 9 is between the last two.
        rows = (
            ("open", 1, None), ("put", 1, 0, 0, "a", "x"), ("put", 1, 0, 1, "b", "x"), ("commit", 1), ("open", 2, None),
            ("open", 3, None), ("strike", 2, 0, 0), ("strike", 3, 0, 1), ("commit", 2), ("commit", 3),
        )
        for removed, marked in (((), ()), ((), (0, 1)), ((0,), (1,)), ((0, 1), ())):
            self.accepts(self.after(*rows), ("clean", 0, removed, marked))
        for removed, marked in (((1,), (0,)), ((0,), ()), ((1,), ()), ((), (0,))):
            self.refuses(self.after(*rows), ("clean", 0, removed, marked))

    def test_what_a_cleaning_leaves(self):
        state = self.after(*FAMILIES)
        self.assertEqual(state.cleaned(0, 0), ((2, 3, 6), ()))
        self.refuses(state, ("clean", 0, (), ()), ("clean", 0, (2, 3), ()), ("clean", 0, (2, 3, 4, 6), ()))
        self.refuses(state, ("clean", 0, (2, 3, 6), (0,)), ("clean", 0, (2, 3, 6), (0, 1, 4)))
        self.accepts(state, ("clean", 0, (2, 3, 6), (0, 1)))
        same(self, state[0], (
            version("a", "x", 1, None, True), version("b", "x", 1, 6, True), ("stub", "a"), ("stub", "c"),
            version("d", "x", 4), version("b", "z", 6), ("stub", "e"), None,
        ))
        self.assertEqual(state.stubs, 3)

    def test_aborted_enders_are_taken_away(self):
        state = self.after(*FAMILIES)
        self.assertEqual(state[0, 0][4], 2)
        self.accepts(state, ("clean", 0, (2, 3, 6), ()))
        same(self, [state[0, 0], state[0, 1]], [version("a", "x", 1), version("b", "x", 1, 6)])
        self.accepts(state, ("abort", 5), ("clean", 0, (5,), ()))
        same(self, [state[0, 1], state[0, 5]], [version("b", "x", 1), ("stub", "b")])

    def test_lockers_stay(self):
        state = self.after(*BEGINNING, ("open", 3, None), ("lock", 3, 0, 0), ("abort", 3), ("clean", 0, (), (0, 1)))
        same(self, state[0, 0], version("a", "x", 1, None, True, (3,)))

    def test_old_versions_are_not_marked_again(self):
        state = self.after(*TWO_COMMITS, ("clean", 0, (), (0,)))
        self.refuses(state, ("clean", 0, (), (0,)), ("clean", 0, (), (1,)), ("clean", 0, (), (0, 1)))
        self.assertEqual([state.cleaned(0, horizon) for horizon in (0, 5, 6)], [((), ()), ((), ()), ((0,), (1,))])
        self.accepts(state, ("clean", 0, (), ()), ("clean", 0, (0,), (1,)), ("clean", 0, (), ()))

    def test_other_pages_stay(self):
        rows = (("open", 1, None), *puts(1, 0, letters(10)), ("abort", 1))
        state = self.after(*rows, ("clean", 1, (0, 1), ()))
        self.assertEqual([state[0], state[1][:3]], [State.of(rows)[0], (("stub", "ai"), ("stub", "aj"), None)])
        self.assertEqual(state.stubs, 2)

    def test_a_tidy_row(self):
        state = self.after(*FAMILIES, ("commit", 5))
        self.refuses(state, *[("tidy", 0, (slot,)) for slot in (0, 4, 5, 7)], ("tidy", 1, (1,)), ("tidy", 0, (0, 1)))
        self.refuses(state, ("tidy", 0, (1, 7)), ("tidy", 0, (1, 2, 3, 4, 6)))
        before = state[0]
        self.accepts(state, ("tidy", 0, (1, 3)))
        same(self, state[0], before[:1] + (("stub", "b"),) + before[2:3] + (("stub", "c"),) + before[4:])
        # A tidy row changes nothing else: the aborted ender stays, and no version becomes old.
        self.assertEqual([state[0, 0][4], state[0, 0][5], state.stubs], [2, False, 2])
        self.refuses(state, ("tidy", 0, (1,)), ("tidy", 0, (2, 3)))
        self.accepts(state, ("tidy", 0, (2, 6)))

    def test_a_sweep(self):
        state = self.after(*FAMILIES)
        self.refuses(state, ("sweep",))
        self.refuses(State(), ("sweep",))
        self.accepts(state, ("tidy", 0, (2, 6)), ("commit", 5), ("clean", 0, (1, 3), (0, 5)))
        kept = state[0]
        self.accepts(state, ("sweep",))
        same(self, state[0], (kept[0], None, None, None, kept[4], kept[5], None, None))
        self.assertEqual([state.stubs, state.entries_of("c")], [0, ()])
        self.refuses(state, ("sweep",))
        self.accepts(state, ("open", 8, None), ("put", 8, 0, 1, "c", "v"), ("put", 8, 0, 2, "z", "v"))

    def test_a_sweep_frees_all_pages(self):
        state = self.after(("open", 1, None), *puts(1, 0, letters(20)), ("abort", 1), ("tidy", 0, (7,)),
                           ("tidy", 2, (1, 2)), ("clean", 1, (0, 1, 2, 3, 4, 5, 6, 7), ()))
        self.assertEqual(state.stubs, 11)
        self.accepts(state, ("sweep",))
        self.assertEqual([state.stubs, state[0, 7], state[1], state[2, 0][0]], [0, None, (None,) * 8, "version"])


class PlainTest(StateCase):
    CLEANED = BEGINNING + (("clean", 0, (), (0, 1)),)

    def is_plain(self, answer, *rows):
        self.assertIs(self.after(*rows).is_plain(0), answer)
        self.assertIs(self.after(*rows).is_plain(page=0), answer)

    def test_old_versions_without_enders(self):
        self.is_plain(True, *self.CLEANED)
        self.assertIs(self.after(*self.CLEANED).is_plain(1), False)

    def test_an_empty_page(self):
        self.is_plain(False)
        self.is_plain(False, ("clean", 0, (), ()))

    def test_versions_that_are_not_old(self):
        self.is_plain(False, *BEGINNING)
        self.is_plain(False, *self.CLEANED, ("open", 3, None), ("put", 3, 0, 2, "c", "v"), ("commit", 3))
        self.is_plain(True, *self.CLEANED, ("open", 3, None), ("put", 3, 0, 2, "c", "v"), ("commit", 3),
                      ("clean", 0, (), (2,)))

    def test_stubs(self):
        rows = self.CLEANED + (("open", 3, None), ("strike", 3, 0, 1), ("commit", 3), ("clean", 0, (1,), ()))
        self.is_plain(False, *rows)
        self.is_plain(True, *rows, ("sweep",))

    def test_enders(self):
        rows = self.CLEANED + (("open", 3, None), ("strike", 3, 0, 0))
        self.is_plain(False, *rows)
        self.is_plain(False, *rows, ("commit", 3))
        self.is_plain(False, *rows, ("abort", 3))
        self.is_plain(False, *rows, ("fall",))
        self.is_plain(True, *rows, ("abort", 3), ("clean", 0, (), ()))

    def test_lockers(self):
        rows = self.CLEANED + (("open", 3, None), ("open", 4, 3), ("lock", 4, 0, 1), ("commit", 4))
        self.is_plain(False, *rows)
        self.is_plain(False, *rows, ("prepare", 3, 0))
        self.is_plain(True, *rows, ("commit", 3))
        self.is_plain(True, *rows, ("abort", 3))
        self.is_plain(True, *rows, ("fall",))
