import unittest

from samples import BEGINNING, ODD_KEYS, ODD_PLACES, ODD_VALUES, TWO_COMMITS, house_of, raised, same
from whoheld.errors import Cancelled, Ended, InvalidKey, NoKey, NoPage
from whoheld.houses import House
from whoheld.readers import Reader

FALL = ("fall",)


class ReaderCase(unittest.TestCase):
    def asked(self, reader, key="a", low="a", high="z", page=0):
        """Each way to ask a reader, by its name."""
        return {
            "get": lambda: reader.get(key),
            "scan": lambda: list(reader.scan(low, high)),
            "slots_on": lambda: reader.slots_on(page),
            "in": lambda: key in reader,
            "item": lambda: reader[key],
            "len": lambda: len(reader),
        }

    def all_raise(self, error, reader, **named):
        for name, ask in self.asked(reader, **named).items():
            with self.subTest(name=name):
                raised(self, error, ask)


class OpenReaderTest(ReaderCase):
    def test_the_example(self):
        house = House()
        early = house.reader()
        for row in (("open", 1, None), ("put", 1, 0, 0, "k", "a"), ("commit", 1)):
            self.assertIsNone(house.take(row))
        late = house.reader()
        same(self, [early.view, late.view, early.get("k"), late["k"], "k" in early, len(late), house.open_views()],
             [0, 3, None, "a", False, 1, [0, 3]])
        same(self, [early.close(), early.close(), early.state, house.open_views(),
                    house.reading(lambda reader: reader.view)], [True, False, "closed", [3], 3])
        self.assertEqual(raised(self, NoKey, lambda: late["m"]).key, "m")
        raised(self, Ended, early.get, "k")

    def test_what_a_reader_sees(self):
        house = house_of(*BEGINNING)
        reader = house.reader()
        self.assertIsInstance(reader, Reader)
        same(self, [reader.view, reader.state, reader.get("a"), reader.get(key="b"), reader.get("c")],
             [6, "open", "x", "y", None])
        same(self, [list(reader.scan("a", "z")), list(reader.scan(low="b", high="b")), list(reader.scan("z", "a"))],
             [[("a", "x"), ("b", "y")], [("b", "y")], []])
        same(self, [reader.slots_on(0), reader.slots_on(page=1), len(reader), reader["a"]], [(0, 1), (), 2, "x"])
        self.assertIs("a" in reader, True)
        self.assertIs("c" in reader, False)

    def test_it_sees_by_its_view_behind_the_present_log(self):
        house = house_of(*TWO_COMMITS[:3])
        reader = house.reader()
        for row in TWO_COMMITS[3:]:
            house.take(row)
        self.assertEqual([reader.get("k"), reader["k"], len(reader), reader.view], ["a", "a", 1, 3])
        self.assertEqual([house.reader().get("k"), house.reader().view], ["b", 6])
        # A clean row that is passed by hand may remove what a reader sees.
        house.take(("clean", 0, (0,), (1,)))
        self.assertEqual([reader.get("k"), len(reader), "k" in reader, list(reader.scan("a", "z"))], [None, 0, False, []])
        raised(self, NoKey, lambda: reader["k"])

    def test_slots_of_a_plain_page(self):
        house = House()
        early = house.reader()
        for row in BEGINNING:
            house.take(row)
        self.assertEqual([early.slots_on(0), house.reader().slots_on(0)], [(), (0, 1)])
        house.take(("clean", 0, (), (0, 1)))
        self.assertEqual([early.slots_on(0), len(early)], [(0, 1), 0])

    def test_a_reader_writes_no_row(self):
        house = house_of(*BEGINNING)
        reader = house.reader()
        log, pages = house.log, house.state.pages
        for ask in self.asked(reader).values():
            ask()
        reader.close()
        self.assertEqual((house.log, house.state.pages), (log, pages))

    def test_wrong_keys(self):
        reader = house_of(*BEGINNING).reader()
        for value in ODD_KEYS:
            self.assertIs(raised(self, InvalidKey, reader.get, value).value, value)
            self.assertIs(raised(self, InvalidKey, lambda: reader[value]).value, value)
            self.assertIs(raised(self, InvalidKey, lambda: list(reader.scan(value, "z"))).value, value)
            self.assertIs(raised(self, InvalidKey, lambda: list(reader.scan("a", value))).value, value)
            self.assertIs(raised(self, InvalidKey, lambda: list(reader.scan(value, None))).value, value)
            self.assertIs(value in reader, False)

    def test_a_key_that_it_does_not_see(self):
        reader = House().reader()
        for key in ("a", "abcdefgh", "open"):
            self.assertEqual(raised(self, NoKey, lambda: reader[key]).key, key)
            self.assertIsNone(reader.get(key))

    def test_wrong_pages(self):
        for pages in (1, 8):
            reader = house_of(*BEGINNING, pages=pages).reader()
            for value in ODD_PLACES:
                self.assertIs(raised(self, NoPage, reader.slots_on, value).page, value)
            # A page that the house does not have is a page all the same.
            self.assertEqual([reader.slots_on(page) for page in range(8)], [(0, 1)] + [()] * 7)

    def test_errors_change_nothing(self):
        house = house_of(*BEGINNING)
        reader = house.reader()
        for value in ODD_VALUES:
            if value != "open":
                raised(self, InvalidKey, reader.get, value)
        self.assertEqual([reader.state, reader.view, house.log, house.open_views()], ["open", 6, BEGINNING, [6]])

    def test_properties_are_not_assigned(self):
        reader = House().reader()
        for name in ("view", "state"):
            with self.assertRaises(AttributeError):
                setattr(reader, name, 1)

    def test_a_reader_is_not_iterated_over(self):
        raised(self, TypeError, lambda: list(house_of(*BEGINNING).reader()))


class ScanTest(ReaderCase):
    def test_errors_come_with_the_first_item(self):
        reader = house_of(*BEGINNING).reader()
        for low, high, value in (("A", "z", "A"), ("a", "Z", "Z"), (1, 2, 1)):
            self.assertEqual(raised(self, InvalidKey, lambda: next(reader.scan(low, high))).value, value)

    def test_what_is_yielded_is_fixed_with_the_first_item(self):
        house = house_of(*BEGINNING)
        reader = house.reader()
        pairs = reader.scan("a", "z")
        self.assertEqual(next(pairs), ("a", "x"))
        for row in (("open", 3, None), ("strike", 3, 0, 1), ("commit", 3), ("clean", 0, (1,), (0,))):
            house.take(row)
        reader.close()
        self.assertEqual(list(pairs), [("b", "y")])

    def test_generators_by_turns(self):
        reader = house_of(*BEGINNING).reader()
        one, other = reader.scan("a", "z"), reader.scan("b", "z")
        self.assertEqual([next(one), next(other), next(one), list(one), list(other)],
                         [("a", "x"), ("b", "y"), ("b", "y"), [], []])


class EndingTest(ReaderCase):
    def closed(self):
        reader = house_of(*BEGINNING).reader()
        self.assertIs(reader.close(), True)
        return reader

    def fallen(self):
        house = house_of(*BEGINNING)
        reader = house.reader()
        house.take(FALL)
        return reader

    def cancelled(self):
        reader = house_of(*BEGINNING).reader()
        self.assertIs(reader.finish("cancelled"), True)
        return reader

    def test_states(self):
        self.assertEqual([self.closed().state, self.fallen().state, self.cancelled().state],
                         ["closed", "fallen", "cancelled"])
        self.assertEqual([self.closed().view, self.fallen().view, self.cancelled().view], [6, 6, 6])

    def test_each_way_to_ask(self):
        self.all_raise(Ended, self.closed())
        self.all_raise(Ended, self.fallen())
        self.all_raise(Cancelled, self.cancelled())

    def test_the_end_is_told_ahead_of_wrong_values(self):
        for value in ODD_VALUES + ("c", 8):
            wrong = {"key": value, "low": value, "high": value, "page": value}
            self.all_raise(Ended, self.closed(), **wrong)
            self.all_raise(Ended, self.fallen(), **wrong)
            self.all_raise(Cancelled, self.cancelled(), **wrong)

    def test_an_ended_reader_keeps_its_state(self):
        for make, state in ((self.closed, "closed"), (self.fallen, "fallen"), (self.cancelled, "cancelled")):
            reader = make()
            self.assertIs(reader.close(), False)
            self.assertIs(reader.finish("fallen"), False)
            with reader as same_reader:
                self.assertIs(same_reader, reader)
            self.assertEqual(reader.state, state)

    def test_a_fall_does_not_reopen_or_change_closed_ones(self):
        house = house_of(*BEGINNING)
        closed, fallen = house.reader(), house.reader()
        closed.close()
        house.take(FALL)
        later = house.reader()
        self.assertEqual([closed.state, fallen.state, later.state, later.view], ["closed", "fallen", "open", 7])
        house.take(FALL)
        self.assertEqual([closed.state, fallen.state, later.state], ["closed", "fallen", "fallen"])

    def test_a_scan_that_was_begun_in_time_goes_on(self):
        reader = house_of(*BEGINNING).reader()
        begun, not_begun = reader.scan("a", "z"), reader.scan("a", "z")
        next(begun)
        reader.close()
        self.assertEqual(list(begun), [("b", "y")])
        raised(self, Ended, list, not_begun)


class WithTest(ReaderCase):
    def test_it_is_closed_at_the_end_of_the_block(self):
        house = house_of(*BEGINNING)
        with house.reader() as reader:
            self.assertEqual([reader.state, reader.get("a"), house.open_views()], ["open", "x", [6]])
        self.assertEqual([reader.state, house.open_views()], ["closed", []])

    def test_an_error_passes_through(self):
        house = house_of(*BEGINNING)
        for error in (NoKey("m"), ValueError("odd"), KeyboardInterrupt()):
            with self.assertRaises(type(error)) as caught:
                with house.reader() as reader:
                    raise error
            self.assertIs(caught.exception, error)
            self.assertEqual([reader.state, house.open_views()], ["closed", []])

    def test_a_reader_that_ended_in_the_block(self):
        house = house_of(*BEGINNING)
        with house.reader() as closed:
            closed.close()
        with house.reader() as fallen:
            house.take(FALL)
        with house.reader() as cancelled:
            cancelled.finish("cancelled")
        self.assertEqual([closed.state, fallen.state, cancelled.state], ["closed", "fallen", "cancelled"])

    def test_an_ended_reader_can_be_used_with_with(self):
        reader = House().reader()
        reader.close()
        with reader as held:
            raised(self, Ended, held.get, "a")
