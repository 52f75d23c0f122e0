import unittest

from samples import BEGINNING, TWO_COMMITS, letters, puts, same
from whoheld.pages import entries
from whoheld.states import State
from whoheld.views import count, get, page_slots, scan, seen

EXAMPLE = (
    ("open", 1, None), ("put", 1, 0, 0, "k", "a"), ("commit", 1), ("open", 2, None), ("change", 2, 0, 0, 0, 1, "b"),
)


class ViewsCase(unittest.TestCase):
    def sees(self, state, view, expected, **named):
        """`expected` is a dict from the keys that are seen, ascending, to their spots."""
        for key in ("a", "b", "c", "d", "k", "zz"):
            same(self, seen(state, view, key, **named), expected.get(key))
            value = state[expected[key]][2] if key in expected else None
            same(self, get(state, view, key, **named), value)
        pairs = [(key, state[expected[key]][2]) for key in expected]
        same(self, list(scan(state, view, "a", "zz", **named)), pairs)
        same(self, count(state, view, **named), len(expected))


class SeeingTest(ViewsCase):
    def test_the_examples(self):
        state = State.of(EXAMPLE)
        same(self, [get(state, 5, "k"), get(state, 5, "k", number=2), seen(state, 5, "k", number=2), get(state, 2, "k"),
                    count(state, 5)], ["a", "b", (0, 1), None, 1])
        same(self, [list(scan(state, 5, "a", "k")), page_slots(state, 5, 0), page_slots(state, 2, 0)],
             [[("k", "a")], (0,), ()])

    def test_the_empty_state(self):
        for view in (0, 1, 999999):
            self.sees(State(), view, {})
            self.sees(State(), view, {}, number=None)

    def test_each_view_of_two_commits(self):
        state = State.of(TWO_COMMITS)
        for view in (0, 1, 2):
            self.sees(state, view, {})
        for view in (3, 4, 5):
            self.sees(state, view, {"k": (0, 0)})
        for view in (6, 7, 999999):
            self.sees(state, view, {"k": (0, 1)})

    def test_each_number_of_two_commits(self):
        state = State.of(TWO_COMMITS)
        # The family of 1 still sees its version by its maker, and that of 2 its own.
        for view in (0, 3, 6):
            self.sees(state, view, {"k": (0, 0)}, number=1)
            self.sees(state, view, {"k": (0, 1)}, number=2)

    def test_own_versions_ahead_of_those_of_others(self):
        state = State.of(EXAMPLE)
        for view in (0, 2, 3, 5):
            self.sees(state, view, {"k": (0, 1)}, number=2)
            self.sees(state, view, {"k": (0, 0)} if view > 2 else {})

    def test_an_own_version_of_a_key_that_others_have_hides_theirs(self):
        rows = (
            ("open", 1, None), ("put", 1, 0, 0, "k", "v"), ("commit", 1), ("open", 2, None), ("open", 3, None),
            ("strike", 2, 0, 0), ("commit", 2), ("put", 3, 0, 1, "k", "w"),
        )
        state = State.of(rows)
        self.sees(state, 3, {"k": (0, 0)})
        self.sees(state, 3, {"k": (0, 1)}, number=3)
        state.apply(("strike", 3, 0, 1))
        self.sees(state, 3, {}, number=3)
        self.sees(state, 3, {"k": (0, 0)})

    def test_versions_that_own_numbers_ended(self):
        state = State.of(BEGINNING + (("open", 3, None), ("open", 4, 3), ("strike", 4, 0, 0)))
        self.sees(state, 6, {"a": (0, 0), "b": (0, 1)})
        self.sees(state, 6, {"b": (0, 1)}, number=3)
        self.sees(state, 6, {"b": (0, 1)}, number=4)
        state.apply(("abort", 4))
        self.sees(state, 6, {"a": (0, 0), "b": (0, 1)}, number=3)
        self.sees(state, 6, {"a": (0, 0), "b": (0, 1)}, number=4)

    def test_versions_that_open_numbers_of_others_ended(self):
        state = State.of(BEGINNING + (("open", 3, None), ("strike", 3, 0, 0), ("open", 4, None)))
        self.sees(state, 8, {"a": (0, 0), "b": (0, 1)}, number=4)
        state.apply(("prepare", 3, 0))
        self.sees(state, 8, {"a": (0, 0), "b": (0, 1)}, number=4)
        state.apply(("commit", 3))
        self.sees(state, 8, {"a": (0, 0), "b": (0, 1)}, number=4)
        self.sees(state, 10, {"a": (0, 0), "b": (0, 1)}, number=4)
        self.sees(state, 11, {"b": (0, 1)}, number=4)
        self.sees(state, 11, {"b": (0, 1)})
        self.sees(state, 5, {}, number=4)
        self.sees(state, 6, {"a": (0, 0), "b": (0, 1)}, number=4)

    def test_versions_of_open_and_aborted_makers(self):
        state = State.of((("open", 1, None), ("put", 1, 0, 0, "a", "v"), ("open", 2, 1), ("put", 2, 0, 1, "b", "v"),
                          ("abort", 2), ("open", 3, 1), ("put", 3, 0, 2, "c", "v")))
        self.sees(state, 9, {})
        for number in (1, 2, 3):
            self.sees(state, 0, {"a": (0, 0), "c": (0, 2)}, number=number)
        state.apply(("fall",))
        for number in (None, 1, 2, 3):
            self.sees(state, 9, {}, number=number)

    def test_own_changes_of_own_versions(self):
        state = State.of((("open", 1, None), ("put", 1, 0, 0, "a", "v"), ("open", 2, 1), ("change", 2, 0, 0, 0, 1, "w")))
        self.sees(state, 0, {"a": (0, 1)}, number=1)
        state.apply(("abort", 2))
        self.sees(state, 0, {"a": (0, 0)}, number=1)

    def test_stubs_are_not_seen(self):
        state = State.of(TWO_COMMITS + (("clean", 0, (0,), (1,)),))
        self.sees(state, 3, {})
        self.sees(state, 6, {"k": (0, 1)})

    def test_numbers_that_are_in_no_row(self):
        state = State.of(EXAMPLE)
        self.sees(state, 5, {"k": (0, 0)}, number=3)

    def test_arguments(self):
        state = State.of(EXAMPLE)
        self.assertEqual(seen(state=state, view=5, key="k", number=None), (0, 0))
        self.assertEqual(get(state=state, view=5, key="k", number=2), "b")
        self.assertEqual(list(scan(state=state, view=5, low="k", high="k", number=2)), [("k", "b")])
        self.assertEqual(count(state=state, view=5, number=None), 1)
        self.assertEqual(page_slots(state=state, view=5, page=0), (0,))
        for ask in (seen, get):
            self.assertRaises(TypeError, ask, state, 5, "k", 2)
        self.assertRaises(TypeError, count, state, 5, 2)

    def test_nothing_is_changed(self):
        state = State.of(EXAMPLE)
        pages, rows = state.pages, state.rows
        for number in (None, 1, 2):
            self.assertEqual(len(list(scan(state, 5, "a", "z", number=number))), 1)
            count(state, 5, number=number)
        self.assertEqual((state.pages, state.rows), (pages, rows))


class ScanTest(ViewsCase):
    KEYS = ("b", "d", "bb", "a", "c", "dd")
    STATE = State.of((("open", 1, None), *puts(1, 0, KEYS), ("commit", 1)))

    def keys(self, low, high):
        return [key for key, _ in scan(self.STATE, 8, low, high)]

    def test_bounds(self):
        self.assertEqual(self.keys("a", "z"), ["a", "b", "bb", "c", "d", "dd"])
        self.assertEqual(self.keys("b", "d"), ["b", "bb", "c", "d"])
        self.assertEqual(self.keys("ba", "cz"), ["bb", "c"])
        self.assertEqual(self.keys("b", "b"), ["b"])
        self.assertEqual(self.keys("e", "z"), [])
        self.assertEqual(self.keys("aa", "az"), [])

    def test_bounds_out_of_order(self):
        for low, high in (("z", "a"), ("d", "b"), ("bb", "b"), ("c", "bz")):
            self.assertEqual(self.keys(low, high), [])

    def test_what_is_yielded_is_fixed_with_the_first_pair(self):
        state = State.of(BEGINNING + (("open", 3, None),))
        early, late = scan(state, 6, "a", "z"), scan(state, 99, "a", "z", number=3)
        self.assertEqual(next(early), ("a", "x"))
        state.apply(("change", 3, 0, 1, 0, 2, "w"))
        self.assertEqual(next(late), ("a", "x"))
        for row in (("put", 3, 0, 3, "c", "w"), ("commit", 3), ("clean", 0, (1,), (0, 2, 3)), ("sweep",)):
            state.apply(row)
        self.assertEqual(next(early), ("b", "y"))
        self.assertEqual(list(late), [("b", "w")])
        self.assertEqual(list(early), [])
        self.assertEqual(list(scan(state, 99, "a", "z")), [("a", "x"), ("b", "w"), ("c", "w")])

    def test_several_generators_by_turns(self):
        one, other = scan(self.STATE, 8, "a", "b"), scan(self.STATE, 8, "b", "c")
        self.assertEqual([next(one), next(other), next(one), next(other), next(other)],
                         [("a", "v"), ("b", "v"), ("b", "v"), ("bb", "v"), ("c", "v")])

    def test_many_keys(self):
        state = State.of((("open", 1, None), *puts(1, 0, letters(64)), ("commit", 1)))
        self.assertEqual([key for key, _ in scan(state, 99, "a", "zz")], letters(64))
        self.assertEqual([count(state, 66), count(state, 65), count(state, 0, number=1)], [64, 0, 64])
        self.assertEqual(len(entries(state.pages)), 64)


class PageSlotsTest(ViewsCase):
    def slots(self, rows, view, page=0):
        return page_slots(State.of(rows), view, page)

    def test_a_page_that_is_not_plain(self):
        rows = BEGINNING + (("open", 3, None), ("strike", 3, 0, 0), ("put", 3, 0, 2, "c", "v"), ("commit", 3))
        for view, slots in ((0, ()), (5, ()), (6, (0, 1)), (9, (0, 1)), (10, (1, 2)), (99, (1, 2))):
            same(self, self.slots(rows, view), slots)
        same(self, self.slots(rows, 99, 1), ())
        same(self, self.slots(rows, 99, 7), ())

    def test_a_plain_page(self):
        rows = BEGINNING + (("clean", 0, (), (0, 1)),)
        for view in (0, 5, 6, 99):
            same(self, self.slots(rows, view), (0, 1))
        same(self, self.slots(rows, 99, 1), ())

    def test_a_page_that_is_no_longer_plain(self):
        rows = BEGINNING + (("clean", 0, (), (0, 1)), ("open", 3, None), ("lock", 3, 0, 0))
        same(self, [self.slots(rows, 5), self.slots(rows, 6)], [(), (0, 1)])
        same(self, self.slots(rows + (("abort", 3),), 5), (0, 1))
        rows = rows + (("strike", 3, 0, 0), ("abort", 3))
        same(self, [self.slots(rows, 5), self.slots(rows, 6)], [(), (0, 1)])

    def test_an_empty_page(self):
        for page in range(8):
            same(self, self.slots((), 3, page), ())

    def test_a_page_with_a_stub(self):
        rows = TWO_COMMITS + (("clean", 0, (0,), (1,)),)
        same(self, [self.slots(rows, 5), self.slots(rows, 6)], [(), (1,)])
        same(self, self.slots(rows + (("sweep",),), 5), (1,))

    def test_versions_of_the_family_are_not_seen(self):
        same(self, self.slots(EXAMPLE, 99), (0,))
