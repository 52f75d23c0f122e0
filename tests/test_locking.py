import unittest

from samples import letters, puts, same
from whoheld.locking import blockers, verdict
from whoheld.states import State

# One page, each slot of which has a version; 2 struck b and is open, 3 struck c and has committed (row 13), 4 locked d
# and is open, 5 has no version and is open.
FULL = (("open", 1, None),) + puts(1, 0, list("abcdefgh")) + (
    ("commit", 1), ("open", 2, None), ("strike", 2, 0, 1), ("open", 3, None), ("strike", 3, 0, 2), ("commit", 3),
    ("open", 4, None), ("lock", 4, 0, 3), ("open", 5, None),
)


class ExampleTest(unittest.TestCase):
    def test_the_example(self):
        rows = (("open", 1, None), ("put", 1, 0, 0, "a", "x"), ("commit", 1), ("open", 2, None), ("lock", 2, 0, 0))
        state = State.of(rows + (("open", 3, None), ("put", 3, 0, 1, "b", "y")))
        same(self, [blockers(state, 3, 0, 0), blockers(state, 3, 0, 0, shared=True), blockers(state, 2, 0, 0)],
             [[2], [], []])
        same(self, [verdict(state, 3, 3, "strike", "a"), verdict(state, 3, 2, "strike", "a"),
                    verdict(state, 2, 2, "strike", "a")], [("blocked", 2), ("done", 0, 0), ("missing",)])
        same(self, [verdict(state, 7, None, "put", "b"), verdict(state, 3, 2, "lock", "a"),
                    verdict(state, 5, 3, "put", "c")], [("blocked", 3), ("held",), ("done", 0, 2)])


class BlockersTest(unittest.TestCase):
    def blocked(self, rows, number, spot=(0, 0)):
        state = State.of(rows)
        page, slot = spot
        found = blockers(state, number, page, slot)
        shared = blockers(state=state, number=number, page=page, slot=slot, shared=True)
        self.assertEqual(blockers(state, number, page, slot, shared=False), found)
        return found, shared

    def test_slots_without_a_version(self):
        rows = (("open", 1, None), ("put", 1, 0, 0, "a", "x"), ("abort", 1), ("clean", 0, (0,), ()), ("open", 2, None))
        same(self, [self.blocked(rows, 2), self.blocked(rows, None, (7, 7))], [([], []), ([], [])])

    def test_an_ender(self):
        rows = (("open", 1, None), ("put", 1, 0, 0, "a", "x"), ("commit", 1), ("open", 2, None), ("open", 3, 2),
                ("strike", 3, 0, 0), ("open", 4, None))
        same(self, self.blocked(rows, 4), ([2], [2]))
        same(self, self.blocked(rows, None), ([2], [2]))
        # It is of the own family.
        same(self, [self.blocked(rows, 2), self.blocked(rows, 3)], [([], []), ([], [])])
        # An inner one that was committed is open.
        same(self, self.blocked(rows + (("commit", 3),), 4), ([2], [2]))
        for end in (("abort", 3), ("commit", 3), ("fall",)):
            last = (("commit", 2),) if end == ("commit", 3) else ()
            same(self, self.blocked(rows + (end,) + last, None), ([], []))

    def test_a_prepared_one(self):
        rows = (("open", 1, None), ("put", 1, 0, 0, "a", "x"), ("commit", 1), ("open", 2, None), ("strike", 2, 0, 0),
                ("prepare", 2, 3), ("fall",))
        same(self, [self.blocked(rows, None), self.blocked(rows + (("abort", 2),), None)], [([2], [2]), ([], [])])

    def test_lockers(self):
        rows = (("open", 1, None), ("put", 1, 0, 0, "a", "x"), ("commit", 1), ("open", 2, None), ("open", 3, None),
                ("open", 4, 2), ("lock", 3, 0, 0), ("lock", 4, 0, 0), ("open", 5, None))
        same(self, self.blocked(rows, 5), ([2, 3], []))
        same(self, [self.blocked(rows, 2), self.blocked(rows, 4), self.blocked(rows, 3)], [([3], []), ([3], []), ([2], [])])
        rows += (("abort", 4),)
        same(self, [self.blocked(rows, None), self.blocked(rows + (("commit", 3),), None)], [([3], []), ([], [])])

    def test_a_locker_that_is_the_ender(self):
        rows = (("open", 1, None), ("put", 1, 0, 0, "a", "x"), ("commit", 1), ("open", 2, None), ("lock", 2, 0, 0),
                ("open", 3, 2), ("change", 3, 0, 0, 0, 1, "y"))
        same(self, self.blocked(rows, None), ([2], [2]))

    def test_the_list_belongs_to_the_caller(self):
        state = State.of(FULL)
        blockers(state, 5, 0, 3).append(9)
        same(self, blockers(state, 5, 0, 3), [4])


class PutTest(unittest.TestCase):
    def test_each_case(self):
        state = State.of(FULL)
        for key, pages, told in (
            ("a", 8, ("taken",)), ("b", 8, ("blocked", 2)), ("c", 8, ("done", 1, 0)), ("d", 8, ("taken",)),
            ("z", 8, ("done", 1, 0)), ("z", 2, ("done", 1, 0)), ("z", 1, ("full",)), ("c", 1, ("full",)),
            # Several cases at once.
            ("a", 1, ("taken",)), ("b", 1, ("blocked", 2)),
        ):
            for number in (5, 4, None):
                for view in (0, 9, 30):
                    same(self, verdict(state, view, number, "put", key, pages=pages), told)
        same(self, verdict(state=state, view=18, number=5, word="put", key="z"), ("done", 1, 0))

    def test_all_pages(self):
        rows = (("open", 1, None),) + puts(1, 0, letters(64))
        same(self, verdict(State.of(rows[:57]), 0, 1, "put", "z"), ("done", 7, 0))
        same(self, verdict(State.of(rows[:57]), 0, 1, "change", "aa"), ("done", 0, 0))
        same(self, verdict(State.of(rows), 0, 1, "put", "z"), ("full",))

    def test_the_own_family(self):
        rows = FULL + (("open", 6, 2), ("open", 7, None), ("put", 7, 1, 0, "i", "x"))
        state = State.of(rows)
        # 2 struck b, so its family can put it again.
        same(self, [verdict(state, 10, number, "put", "b") for number in (2, 6, 7, None)],
             [("done", 1, 1), ("done", 1, 1), ("blocked", 2), ("blocked", 2)])
        same(self, [verdict(state, 10, number, "put", "i") for number in (7, 2, None)],
             [("taken",), ("blocked", 7), ("blocked", 7)])

    def test_aborted_makers_do_not_count(self):
        state = State.of((("open", 1, None), ("put", 1, 0, 0, "a", "x"), ("abort", 1), ("open", 2, None)))
        same(self, [verdict(state, 0, number, "put", "a") for number in (2, None)], [("done", 0, 1)] * 2)


class DeedTest(unittest.TestCase):
    def told(self, state, view, number, key, **named):
        return [verdict(state, view, number, word, key, **named) for word in ("change", "strike", "lock")]

    def test_each_case(self):
        state = State.of(FULL)
        for number in (5, None):
            same(self, self.told(state, 10, number, "z"), [("missing",)] * 3)
            same(self, self.told(state, 9, number, "a"), [("missing",)] * 3)
            same(self, self.told(state, 10, number, "a"), [("done", 0, 0)] * 3)
            same(self, self.told(state, 10, number, "b"), [("blocked", 2)] * 3)
            same(self, self.told(state, 14, number, "c"), [("refused", 0, 2)] * 3)
            same(self, self.told(state, 15, number, "c"), [("missing",)] * 3)
            same(self, self.told(state, 15, number, "d"), [("blocked", 4), ("blocked", 4), ("done", 0, 3)])
        same(self, self.told(state, 15, 4, "d"), [("done", 0, 3), ("done", 0, 3), ("held",)])
        same(self, self.told(state, 10, 2, "b"), [("missing",)] * 3)

    def test_several_cases_at_once(self):
        state = State.of(FULL)
        same(self, self.told(state, 10, 5, "z", pages=1), [("missing",)] * 3)
        same(self, self.told(state, 10, 5, "b", pages=1), [("blocked", 2)] * 3)
        same(self, self.told(state, 10, 5, "d", pages=1), [("blocked", 4), ("blocked", 4), ("done", 0, 3)])
        same(self, self.told(state, 14, 5, "c", pages=1), [("refused", 0, 2)] * 3)
        same(self, self.told(state, 10, 5, "a", pages=1), [("full",), ("done", 0, 0), ("done", 0, 0)])
        same(self, self.told(state, 10, 5, "a", pages=2), [("done", 0, 0)] * 3)
        same(self, self.told(state, 15, 4, "d", pages=1), [("full",), ("done", 0, 3), ("held",)])

    def test_lockers_of_several_families(self):
        rows = (("open", 1, None), ("put", 1, 0, 0, "a", "x"), ("commit", 1), ("open", 2, None), ("open", 3, None),
                ("open", 4, 2), ("lock", 3, 0, 0), ("lock", 4, 0, 0), ("open", 5, None))
        state = State.of(rows)
        same(self, self.told(state, 3, 5, "a"), [("blocked", 2), ("blocked", 2), ("done", 0, 0)])
        # It is held for the family of 2, and blocked by 3.
        same(self, self.told(state, 3, 2, "a"), [("blocked", 3), ("blocked", 3), ("held",)])
        same(self, self.told(state, 3, 4, "a"), [("blocked", 3), ("blocked", 3), ("held",)])
        # The lock of an aborted number is not held.
        state = State.of(rows + (("abort", 4),))
        same(self, self.told(state, 3, 2, "a"), [("blocked", 3), ("blocked", 3), ("done", 0, 0)])
        same(self, self.told(state, 3, 3, "a"), [("done", 0, 0), ("done", 0, 0), ("held",)])

    def test_own_versions(self):
        rows = (("open", 1, None), ("put", 1, 0, 0, "a", "x"), ("commit", 1), ("open", 2, None), ("open", 3, 2),
                ("change", 3, 0, 0, 0, 1, "y"))
        for number in (2, 3):
            for more in ((), (("commit", 3),)):
                same(self, self.told(State.of(rows + more), 0, number, "a"), [("done", 0, 1), ("done", 0, 1), ("held",)])
        # What an aborted number made and ended counts for nothing.
        same(self, self.told(State.of(rows + (("abort", 3),)), 3, 2, "a"), [("done", 0, 0)] * 3)
        same(self, self.told(State.of(rows + (("abort", 3),)), 2, 2, "a"), [("missing",)] * 3)

    def test_an_own_version_that_was_ended(self):
        rows = (("open", 1, None), ("put", 1, 0, 0, "a", "x"), ("open", 2, 1), ("strike", 2, 0, 0))
        state = State.of(rows)
        for number in (1, 2):
            same(self, self.told(state, 0, number, "a"), [("missing",)] * 3)
        same(self, self.told(State.of(rows + (("abort", 2),)), 0, 1, "a"), [("done", 0, 0), ("done", 0, 0), ("held",)])

    def test_what_is_told_can_be_written(self):
        state = State.of(FULL)
        for word, key, number in (("strike", "a", 5), ("lock", "a", 5), ("strike", "c", 5), ("lock", "d", 5),
                                  ("strike", "d", 4), ("lock", "c", 4)):
            told = verdict(state, 14, number, word, key)
            row = ((word if told[0] == "done" else "refused"), number) + told[1:]
            self.assertTrue(state.can_stand(row), row)
