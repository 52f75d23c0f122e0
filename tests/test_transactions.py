import unittest

from samples import ODD_KEYS, ODD_VALUES, raised, same
from whoheld.errors import Blocked, Busy, Ended, Full, InvalidKey, InvalidValue, NoKey, NoPage, NotOuter, Taken, TooDeep
from whoheld.store import Store
from whoheld.transactions import Inner, Transaction

ODD_TEXTS = tuple(value for value in ODD_VALUES if value not in ("open", "0", "7")) + (0, 1, "X", "a b", "a-", "aaaaaaaaa")


def store_of(*pairs, pages=8):
    """A store in which one transaction has put these pairs."""
    store = Store(pages=pages)
    one = store.begin()
    for key, value in pairs:
        one.put(key, value)
    one.commit()
    return store


class TransactionCase(unittest.TestCase):
    def fails(self, store, error, work, *arguments, **named):
        """Asserts that an error is raised and that no row was written."""
        before = [store.log, store.state.pages, store.open_views(), store.transactions()]
        found = raised(self, error, work, *arguments, **named)
        same(self, [store.log, store.state.pages, store.open_views(), store.transactions()], before)
        return found

    def calls(self, one, key="a", value="v"):
        """Each method, by its name."""
        return {
            "put": lambda: one.put(key, value), "change": lambda: one.change(key, value),
            "strike": lambda: one.strike(key), "lock": lambda: one.lock(key), "sign": one.sign,
            "get": lambda: one.get(key), "scan": lambda: list(one.scan(key, value)), "count": one.count,
            "inner": one.inner, "commit": one.commit, "abort": one.abort, "prepare": one.prepare,
            "attempt": lambda: one.attempt(lambda inner: self.fail("it is not called")),
        }


class ExampleTest(TransactionCase):
    def test_the_example(self):
        store = Store()
        one = store.begin()
        place = one.put("a", "x")
        one.commit()
        two, three = store.begin(), store.begin()
        changed = two.change("a", "y")
        two.commit()
        same(self, [place, changed, three.get("a"), three.change("a", "z"), store.log[6:]],
             [(0, 0), True, "x", False, (("open", 3, None), ("refused", 3, 0, 0))])
        four = store.begin()
        same(self, [four.lock("a"), four.lock("a"), four.get("a"), store.log[8:]],
             [True, True, "y", (("open", 4, None), ("lock", 4, 0, 1))])
        self.assertEqual(raised(self, Blocked, store.begin().strike, "a").number, 4)
        step = four.inner()
        step.put("b", "1")
        self.assertEqual(raised(self, Busy, four.commit).number, 5)
        self.assertIsNone(four.abort())
        same(self, [step.state, store.log[10:]],
             ["aborted", (("open", 5, 4), ("put", 5, 0, 2, "b", "1"), ("abort", 5), ("abort", 4))])


class AttributesTest(TransactionCase):
    def test_at_the_beginning(self):
        store = store_of(("a", "x"))
        one = store.begin()
        self.assertIs(type(one), Transaction)
        same(self, [one.view, one.number, one.outer, one.state], [3, None, None, "open"])
        inner = one.inner()
        self.assertIs(type(inner), Inner)
        self.assertIsInstance(inner, Transaction)
        same(self, [inner.view, inner.number, inner.state], [3, None, "open"])
        self.assertIs(inner.outer, one)

    def test_the_view_stays(self):
        store = store_of(("a", "x"))
        one, two = store.begin(), store.begin()
        two.put("b", "y")
        one.put("c", "z")
        same(self, [one.view, two.view, one.inner().view, one.number, two.number], [3, 3, 3, 3, 2])

    def test_each_state(self):
        store = store_of(("a", "x"))
        for end, state in (("commit", "committed"), ("abort", "aborted"), ("prepare", "prepared")):
            one = store.begin()
            one.sign()
            getattr(one, end)()
            self.assertEqual(one.state, state)
        store.fall()
        self.assertEqual(one.state, "prepared")
        two = store.begin()
        store.fall()
        self.assertEqual([one.state, two.state], ["prepared", "fallen"])
        store.settle(one.number)
        self.assertEqual(one.state, "committed")

    def test_a_prepared_one_that_is_aborted(self):
        store = store_of(("a", "x"))
        one = store.begin()
        one.prepare()
        store.settle(one.number, commit=False)
        self.assertEqual(one.state, "aborted")

    def test_an_inner_one_stays_committed(self):
        for end in ("abort", "commit", "fall"):
            store = Store()
            one = store.begin()
            inner = one.inner()
            inner.put("a", "x")
            inner.commit()
            (store.fall if end == "fall" else getattr(one, end))()
            self.assertEqual([inner.state, one.state],
                             ["committed", {"abort": "aborted", "commit": "committed", "fall": "fallen"}[end]])


class OpenRowsTest(TransactionCase):
    def test_sign(self):
        store = Store()
        one = store.begin()
        same(self, [one.sign(), one.sign(), store.log, one.number], [1, 1, (("open", 1, None),), 1])

    def test_they_are_written_late_and_from_the_outside(self):
        store = Store()
        one = store.begin()
        two = one.inner()
        three = two.inner()
        other = store.begin()
        other.sign()
        same(self, [one.number, three.sign(), store.log],
             [None, 4, (("open", 1, None), ("open", 2, None), ("open", 3, 2), ("open", 4, 3))])
        same(self, [one.number, two.number, three.number, other.number], [2, 3, 4, 1])

    def test_ahead_of_each_deed(self):
        for word, row in (("put", ("put", 3, 0, 1, "b", "v")), ("change", ("change", 3, 0, 0, 0, 1, "v")),
                          ("strike", ("strike", 3, 0, 0)), ("lock", ("lock", 3, 0, 0))):
            store = store_of(("a", "x"))
            inner = store.begin().inner()
            self.calls(inner, key="b" if word == "put" else "a")[word]()
            same(self, store.log[3:], (("open", 2, None), ("open", 3, 2), row))

    def test_ahead_of_a_refused_row(self):
        for word in ("change", "strike", "lock"):
            store = store_of(("a", "x"))
            inner = store.begin().inner()
            other = store.begin()
            other.strike("a")
            other.commit()
            same(self, self.calls(inner)[word](), False)
            same(self, store.log[6:], (("open", 3, None), ("open", 4, 3), ("refused", 4, 0, 0)))

    def test_one_without_a_number_writes_no_row(self):
        store = store_of(("a", "x"))
        for end in ("commit", "abort"):
            one = store.begin()
            inner = one.inner()
            same(self, [getattr(inner, end)(), getattr(one, end)(), len(store.log)], [None, None, 3])
            self.assertEqual([inner.state, one.state, inner.number], [{"commit": "committed", "abort": "aborted"}[end]] * 2 + [None])

    def test_an_inner_one_without_a_number_in_one_that_has_one(self):
        store = store_of(("a", "x"))
        one = store.begin()
        one.sign()
        inner = one.inner()
        inner.commit()
        deep = one.inner().inner()
        deep.put("b", "y")
        deep.commit()
        same(self, store.log[3:],
             (("open", 2, None), ("open", 3, 2), ("open", 4, 3), ("put", 4, 0, 1, "b", "y"), ("commit", 4)))

    def test_no_row_ahead_of_an_error(self):
        store = store_of(("a", "x"), pages=1)
        inner = store.begin().inner()
        self.fails(store, Taken, inner.put, "a", "y")
        self.fails(store, NoKey, inner.change, "b", "y")
        other = store.begin()
        for key in "bcdefgh":
            other.put(key, "v")
        self.fails(store, Blocked, inner.put, "b", "y")
        other.commit()
        self.fails(store, Full, inner.put, "i", "y")
        self.fails(store, Full, inner.change, "a", "y")
        self.assertEqual([inner.number, inner.outer.number], [None, None])

    def test_reading_writes_none(self):
        store = store_of(("a", "x"))
        inner = store.begin().inner()
        same(self, [inner.get("a"), list(inner.scan("a", "z")), inner.count(), len(store.log)], ["x", [("a", "x")], 1, 3])


class DeedTest(TransactionCase):
    def test_put(self):
        store = store_of(*[(key, "x") for key in "abcdefg"])
        one = store.begin()
        same(self, [one.put("h", "1"), one.put(key="i", value="2"), store.log[-2:]],
             [(0, 7), (1, 0), (("put", 2, 0, 7, "h", "1"), ("put", 2, 1, 0, "i", "2"))])
        self.assertEqual(self.fails(store, Taken, one.put, "a", "y").key, "a")
        self.assertEqual(self.fails(store, Taken, one.put, "h", "y").key, "h")
        self.assertEqual(self.fails(store, Blocked, store.begin().put, "h", "y").number, 2)

    def test_put_behind_an_own_strike(self):
        store = store_of(("a", "x"))
        one = store.begin()
        one.strike("a")
        self.assertEqual(self.fails(store, Blocked, store.begin().put, "a", "y").number, 2)
        same(self, [one.put("a", "y"), one.get("a")], [(0, 1), "y"])

    def test_a_key_that_stands_but_is_not_seen(self):
        store = Store()
        early = store.begin()
        late = store.begin()
        late.put("a", "x")
        late.commit()
        self.assertEqual(self.fails(store, Taken, early.put, "a", "y").key, "a")
        self.assertEqual(self.fails(store, NoKey, early.change, "a", "y").key, "a")

    def test_change(self):
        store = store_of(("a", "x"))
        one = store.begin()
        same(self, [one.change("a", "y"), one.change(key="a", value="z"), one.get("a"), store.log[4:]],
             [True, True, "z", (("change", 2, 0, 0, 0, 1, "y"), ("change", 2, 0, 1, 0, 2, "z"))])
        self.assertEqual(self.fails(store, NoKey, one.change, "b", "y").key, "b")
        self.assertEqual(self.fails(store, Blocked, store.begin().change, "a", "y").number, 2)

    def test_strike(self):
        store = store_of(("a", "x"))
        one = store.begin()
        same(self, [one.strike("a"), one.get("a"), store.log[4:]], [True, None, (("strike", 2, 0, 0),)])
        self.assertEqual(self.fails(store, NoKey, one.strike, key="a").key, "a")

    def test_lock(self):
        store = store_of(("a", "x"), ("b", "x"))
        one, two = store.begin(), store.begin()
        same(self, [one.lock("a"), two.lock("a"), one.lock(key="a"), store.log[4:]],
             [True, True, True, (("open", 2, None), ("lock", 2, 0, 0), ("open", 3, None), ("lock", 3, 0, 0))])
        self.assertEqual(self.fails(store, Blocked, one.change, "a", "y").number, 3)
        self.assertEqual(self.fails(store, Blocked, store.begin().strike, "a").number, 2)
        self.assertEqual(self.fails(store, NoKey, one.lock, "c").key, "c")
        one.change("b", "y")
        self.assertEqual(self.fails(store, Blocked, two.lock, "b").number, 2)
        # Its own version is locked without a row.
        log = store.log
        same(self, [one.lock("b"), store.log], [True, log])

    def test_a_lock_that_needs_no_row_writes_no_open_rows(self):
        store = store_of(("a", "x"))
        one = store.begin()
        one.lock("a")
        inner = one.inner()
        same(self, [inner.lock("a"), inner.number], [True, None])

    def test_a_lock_of_an_aborted_inner_one(self):
        store = store_of(("a", "x"))
        one = store.begin()
        inner = one.inner()
        inner.lock("a")
        inner.abort()
        same(self, [one.lock("a"), store.log[-1]], [True, ("lock", 2, 0, 0)])

    def test_refused_deeds(self):
        store = store_of(("a", "x"), ("b", "x"), pages=1)
        one = store.begin()
        two = store.begin()
        two.change("a", "y")
        self.assertEqual(self.fails(store, Blocked, one.lock, "a").number, 2)
        two.commit()
        two = store.begin()
        for key in "cdefg":
            two.put(key, "x")
        two.commit()
        # All slots are in use, but what is refused is told before that.
        self.fails(store, Full, one.change, "b", "z")
        same(self, [one.change("a", "z"), one.strike("a"), one.lock("a"), store.log[-3:], one.get("a")],
             [False, False, False, (("refused", 4, 0, 0),) * 3, "x"])
        self.assertEqual(one.state, "open")
        one.commit()

    def test_a_deed_behind_a_strike_that_was_committed_earlier(self):
        store = store_of(("a", "x"))
        two = store.begin()
        two.strike("a")
        two.commit()
        one = store.begin()
        self.assertEqual(self.fails(store, NoKey, one.strike, "a").key, "a")
        same(self, [one.get("a"), one.put("a", "y")], [None, (0, 1)])

    def test_an_ender_that_aborted(self):
        for end in ("abort", "fall"):
            store = store_of(("a", "x"))
            two = store.begin()
            two.change("a", "y")
            (two.abort if end == "abort" else store.fall)()
            one = store.begin()
            same(self, [one.get("a"), one.change("a", "z"), one.get("a")], ["x", True, "z"])

    def test_full(self):
        store = store_of(*[(key, "x") for key in "abcdefgh"], pages=1)
        one = store.begin()
        self.fails(store, Full, one.put, "i", "y")
        self.fails(store, Full, one.change, "a", "y")
        same(self, [one.strike("a"), one.lock("b")], [True, True])
        # The slot of a version that was ended is not free yet.
        self.fails(store, Full, one.put, "a", "y")
        one.commit()
        store.clean()
        self.fails(store, Full, store.begin().put, "a", "y")
        store.sweep()
        same(self, store.begin().put("a", "y"), (0, 0))


class ErrorOrderTest(TransactionCase):
    def test_wrong_keys_and_values(self):
        store = store_of(("a", "x"))
        one = store.begin()
        for value in ODD_KEYS:
            for word in ("put", "change", "strike", "lock"):
                self.assertIs(self.fails(store, InvalidKey, self.calls(one, key=value, value=None)[word]).value, value)
            self.assertIs(self.fails(store, InvalidKey, one.get, value).value, value)
            self.assertIs(self.fails(store, InvalidKey, lambda: list(one.scan(value, value))).value, value)
            self.assertIs(self.fails(store, InvalidKey, lambda: list(one.scan("a", value))).value, value)
        for value in ODD_TEXTS:
            for key in ("a", "b"):
                for word in ("put", "change"):
                    self.assertIs(self.fails(store, InvalidValue, self.calls(one, key=key, value=value)[word]).value, value)

    def test_busy_ahead_of_wrong_values(self):
        store = store_of(("a", "x"))
        one = store.begin()
        inner = one.inner()
        for name in ("put", "change", "strike", "lock", "sign", "inner", "commit", "prepare", "attempt"):
            self.assertIsNone(self.fails(store, Busy, self.calls(one, key=None, value=None)[name]).number)
        self.fails(store, InvalidKey, one.get, None)
        deep = inner.inner()
        deep.sign()
        for name in ("put", "change", "strike", "lock", "sign", "inner", "commit", "prepare", "attempt"):
            self.assertEqual(self.fails(store, Busy, self.calls(one, key=None, value=None)[name]).number, 4)
            expected = NotOuter if name == "prepare" else Busy
            self.fails(store, expected, self.calls(inner, key=None, value=None)[name])

    def test_the_number_of_the_innermost_one(self):
        store = store_of(("a", "x"))
        one = store.begin()
        inner = one.inner()
        inner.sign()
        deep = inner.inner()
        self.assertIsNone(self.fails(store, Busy, one.commit).number)
        deep.commit()
        self.assertEqual(self.fails(store, Busy, one.commit).number, 3)

    def test_each_call_in_each_state(self):
        for end in ("commit", "abort", "prepare", "fall"):
            for signed in (True, False):
                store = store_of(("a", "x"))
                one = store.begin()
                inner = one.inner()
                inner.commit()
                if signed:
                    one.sign()
                (store.fall if end == "fall" else getattr(one, end))()
                for key in ("a", None):
                    for ended in (one, inner):
                        for name, call in self.calls(ended, key=key, value=key).items():
                            with self.subTest(end=end, name=name):
                                self.fails(store, Ended, call)

    def test_an_inner_one_whose_outer_ends(self):
        for end in ("abort", "fall"):
            store = store_of(("a", "x"))
            one = store.begin()
            inner = one.inner()
            deep = inner.inner()
            (store.fall if end == "fall" else one.abort)()
            state = "fallen" if end == "fall" else "aborted"
            self.assertEqual([one.state, inner.state, deep.state], [state] * 3)
            for call in list(self.calls(inner).values()) + list(self.calls(deep).values()):
                self.fails(store, Ended, call)


class InnerTest(TransactionCase):
    def test_how_deep(self):
        store = Store()
        one = store.begin()
        found = one
        for _ in range(3):
            found = found.inner()
        self.assertEqual(self.fails(store, TooDeep, found.inner).limit, 3)
        self.assertEqual(self.fails(store, TooDeep, found.attempt, lambda inner: None).limit, 3)
        found.commit()
        found.outer.inner().put("a", "x")
        self.assertEqual(store.log[:4], (("open", 1, None), ("open", 2, 1), ("open", 3, 2), ("open", 4, 3)))

    def test_commits_and_aborts(self):
        store = Store()
        one = store.begin()
        one.put("a", "x")
        inner = one.inner()
        inner.change("a", "y")
        same(self, [inner.commit(), one.get("a"), inner.state], [None, "y", "committed"])
        again = one.inner()
        again.change("a", "z")
        same(self, [one.get("a"), again.abort(), one.get("a"), again.state], ["z", None, "y", "aborted"])
        same(self, [one.commit(), store.log[-1], store.begin().get("a")], [None, ("commit", 1), "y"])

    def test_an_abort_ends_those_within(self):
        store = Store()
        one = store.begin()
        one.put("a", "x")
        inner = one.inner()
        deep = inner.inner()
        deep.put("b", "x")
        deepest = deep.inner()
        inner.abort()
        same(self, [store.log[5:], [found.state for found in (one, inner, deep, deepest)]],
             [(("abort", 3), ("abort", 2)), ["open", "aborted", "aborted", "aborted"]])
        one.strike("a")
        one.abort()
        self.assertEqual(store.log[-2:], (("strike", 1, 0, 0), ("abort", 1)))

    def test_keys_of_an_aborted_inner_one(self):
        store = Store()
        one = store.begin()
        inner = one.inner()
        inner.put("a", "x")
        self.assertEqual([one.get("a"), inner.get("a")], ["x", "x"])
        inner.abort()
        same(self, [one.get("a"), one.put("a", "y"), one.get("a")], [None, (0, 1), "y"])


class PrepareTest(TransactionCase):
    def test_it_signs_and_writes_its_view(self):
        store = store_of(("a", "x"))
        one = store.begin()
        other = store.begin()
        other.sign()
        same(self, [one.prepare(), store.log[4:], one.state, one.number],
             [3, (("open", 3, None), ("prepare", 3, 3)), "prepared", 3])
        same(self, [store.open_views(), store.transactions(), store.horizon], [[3], [(2, 3), (3, 3)], 3])

    def test_inner_ones(self):
        store = store_of(("a", "x"))
        one = store.begin()
        inner = one.inner()
        self.fails(store, NotOuter, inner.prepare)
        deep = inner.inner()
        self.fails(store, NotOuter, inner.prepare)
        self.fails(store, Busy, one.prepare)
        inner.abort()
        for ended in (inner, deep):
            self.fails(store, Ended, ended.prepare)
        one.prepare()
        self.fails(store, Ended, one.prepare)

    def test_a_prepared_one_holds_its_deeds(self):
        store = store_of(("a", "x"))
        one = store.begin()
        one.change("a", "y")
        one.prepare()
        self.assertEqual(self.fails(store, Blocked, store.begin().change, "a", "z").number, 2)
        store.fall()
        self.assertEqual(self.fails(store, Blocked, store.begin().change, "a", "z").number, 2)
        reader = store.reader()
        store.settle(2)
        self.assertEqual([reader.get("a"), store.reader().get("a"), one.state], ["x", "y", "committed"])


class AttemptTest(TransactionCase):
    def test_work_that_returns(self):
        store = store_of(("a", "x"))
        one = store.begin()
        kept = []

        def work(inner):
            kept.append(inner)
            return inner.change("a", "y")

        same(self, [one.attempt(work), kept[0].state, one.get("a")], [True, "committed", "y"])
        same(self, [one.attempt(work=lambda inner: None), one.attempt(lambda inner: [inner.view])], [None, [3]])
        self.assertIs(kept[0].outer, one)
        same(self, store.log[3:], (("open", 2, None), ("open", 3, 2), ("change", 3, 0, 0, 0, 1, "y"), ("commit", 3)))

    def test_work_that_raises(self):
        store = store_of(("a", "x"))
        one = store.begin()
        kept = []

        def work(inner):
            kept.append(inner)
            inner.change("a", "y")
            kept.append(inner.inner())
            kept[1].put("a", "z")

        self.assertEqual(raised(self, Taken, one.attempt, work).key, "a")
        same(self, [[found.state for found in kept], one.get("a"), store.log[-1]], [["aborted"] * 2, "x", ("abort", 3)])
        for error in (NoPage(9), Full(), Ended(), InvalidKey(3), NoKey("k")):
            def fail(inner, error=error):
                raise error
            with self.assertRaises(type(error)) as caught:
                one.attempt(fail)
            self.assertIs(caught.exception, error)
        self.assertEqual([one.state, store.log[-1]], ["open", ("abort", 3)])
        one.commit()

    def test_inner_ones_that_are_left_open(self):
        store = Store()
        one = store.begin()
        kept = []

        def work(inner):
            kept.extend([inner, inner.inner()])
            kept.append(kept[1].inner())
            kept[2].put("a", "x")

        one.attempt(work)
        same(self, [[found.state for found in kept], store.log[-3:]], [["committed"] * 3, (("commit", 4), ("commit", 3), ("commit", 2))])
        one.commit()
        self.assertEqual(store.begin().get("a"), "x")

    def test_work_that_ends_its_transaction(self):
        for end, state in (("commit", "committed"), ("abort", "aborted")):
            for fails in (False, True):
                store = Store()
                one = store.begin()
                kept = []

                def work(inner):
                    kept.append(inner)
                    inner.put("a", "x")
                    getattr(inner, end)()
                    if fails:
                        inner.get("a")
                    return 5

                if fails:
                    raised(self, Ended, one.attempt, work)
                else:
                    self.assertEqual(one.attempt(work), 5)
                same(self, [kept[0].state, one.state, len(store.log)], [state, "open", 4])

    def test_work_that_ends_its_transaction_and_raises(self):
        for end in ("commit", "abort"):
            one = Store().begin()

            def work(inner):
                getattr(inner, end)()
                raise NoKey("m")

            self.assertEqual(raised(self, NoKey, one.attempt, work).key, "m")
            self.assertEqual(one.state, "open")

    def test_work_that_ends_one_and_leaves_another_open(self):
        store = Store()
        one = store.begin()
        kept = []

        def work(inner):
            inner.commit()
            kept.append(one.inner())

        one.attempt(work)
        self.assertEqual(kept[0].state, "open")
        self.fails(store, Busy, one.commit)

    def test_a_fall_and_an_abort_within(self):
        store = Store()
        one = store.begin()
        kept = []
        same(self, one.attempt(lambda inner: (kept.append(inner), inner.put("a", "x"), store.fall())[1]), (0, 0))
        self.assertEqual([one.state, kept[0].state], ["fallen", "fallen"])
        two = store.begin()
        found = two.attempt(lambda inner: (kept.append(inner), inner.sign(), two.abort())[1])
        same(self, [found, kept[1].number, two.state, kept[1].state], [4, 4, "aborted", "aborted"])

    def test_errors_ahead_of_the_work(self):
        store = Store()
        one = store.begin()
        never = self.calls(one)["attempt"]
        inner = one.inner()
        self.fails(store, Busy, never)
        inner.commit()
        one.commit()
        self.fails(store, Ended, never)

    def test_attempts_within_one_another(self):
        store = Store()
        one = store.begin()

        def work(inner):
            return inner.attempt(work) if inner.outer.outer is None or inner.outer.outer.outer is None else inner.sign()

        same(self, [one.attempt(work), len(store.log)], [4, 7])


class FallTest(TransactionCase):
    def test_a_lost_open_row(self):
        store = store_of(("a", "x"))
        one = store.begin()
        one.change("a", "y")
        inner = one.inner()
        inner.sign()
        store.fall(lost=3)
        same(self, [one.state, one.number, inner.state, inner.number, store.log],
             ["fallen", 2, "fallen", 3, store.log[:3] + (("fall",),)])
        two = store.begin()
        same(self, [two.sign(), two.get("a"), one.number, one.state, store.transactions()], [2, "x", 2, "fallen", [(2, 4)]])
        for call in self.calls(one).values():
            self.fails(store, Ended, call)
        two.commit()
        self.assertEqual([one.state, two.state], ["fallen", "committed"])

    def test_a_lost_deed(self):
        store = store_of(("a", "x"))
        one = store.begin()
        one.sign()
        one.lock("a")
        one.put("b", "x")
        store.fall(lost=1)
        same(self, [store.log[3:], one.state], [(("open", 2, None), ("lock", 2, 0, 0), ("fall",)), "fallen"])
        two = store.begin()
        same(self, [two.put("b", "y"), two.change("a", "z"), two.number], [(0, 1), True, 3])

    def test_one_without_a_number(self):
        store = store_of(("a", "x"))
        one = store.begin()
        store.fall()
        same(self, [one.state, one.number, store.transactions(), store.open_views()], ["fallen", None, [], []])

    def test_those_that_ended_before(self):
        store = store_of(("a", "x"))
        done, undone = store.begin(), store.begin()
        inner = done.inner()
        inner.abort()
        done.commit()
        undone.abort()
        store.fall()
        self.assertEqual([done.state, undone.state, inner.state], ["committed", "aborted", "aborted"])

    def test_a_fall_by_hand(self):
        store = store_of(("a", "x"))
        one = store.begin()
        inner = one.inner()
        store.take(("fall",))
        self.assertEqual([one.state, inner.state], ["fallen", "fallen"])


class ReadingTest(TransactionCase):
    def test_what_it_sees(self):
        store = store_of(("a", "x"), ("b", "x"), ("c", "x"))
        one = store.begin()
        other = store.begin()
        other.change("a", "late")
        other.put("e", "late")
        other.commit()
        one.change("b", "own")
        one.strike("c")
        one.put("d", "own")
        same(self, [one.get("a"), one.get("b"), one.get(key="c"), one.get("d"), one.get("e"), one.count()],
             ["x", "own", None, "own", None, 3])
        same(self, [list(one.scan("a", "z")), list(one.scan(low="b", high="b")), list(one.scan("d", "a"))],
             [[("a", "x"), ("b", "own"), ("d", "own")], [("b", "own")], []])
        same(self, [store.begin().get(key) for key in "abcde"], ["late", "x", "x", None, "late"])

    def test_in_a_family(self):
        store = store_of(("a", "x"))
        one = store.begin()
        one.put("b", "1")
        inner = one.inner()
        inner.change("b", "2")
        inner.put("c", "3")
        for found in (one, inner):
            same(self, [list(found.scan("a", "z")), found.get("c"), found.count()],
                 [[("a", "x"), ("b", "2"), ("c", "3")], "3", 3])
        other = store.begin()
        same(self, [other.count(), other.get("b")], [1, None])
        inner.abort()
        same(self, [list(one.scan("a", "z")), one.count()], [[("a", "x"), ("b", "1")], 2])

    def test_a_scan_is_fixed_with_its_first_pair(self):
        store = store_of(("a", "x"), ("b", "x"))
        one = store.begin()
        pairs, later = one.scan("a", "z"), one.scan("a", "z")
        self.assertEqual(next(pairs), ("a", "x"))
        one.change("b", "y")
        self.assertEqual(next(later), ("a", "x"))
        one.commit()
        same(self, [list(pairs), list(later)], [[("b", "x")], [("b", "y")]])
        raised(self, Ended, next, one.scan("a", "z"))

    def test_errors_come_with_the_first_item(self):
        one = store_of(("a", "x")).begin()
        for low, high, value in (("A", "z", "A"), ("a", "Z", "Z"), (1, 2, 1)):
            self.assertEqual(raised(self, InvalidKey, next, one.scan(low, high)).value, value)

    def test_it_holds_what_it_sees(self):
        store = store_of(("a", "x"))
        one = store.begin()
        other = store.begin()
        other.strike("a")
        other.commit()
        same(self, [store.horizon, store.clean(), one.get("a")], [3, ((0, (), (0,)),), "x"])
        one.commit()
        same(self, [store.horizon, store.clean()], [7, ((0, (0,), ()),)])
