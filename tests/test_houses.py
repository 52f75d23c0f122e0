import unittest

from samples import BEGINNING, ODD_VALUES, TWO_COMMITS, house_of, letters, puts, raised, same
from whoheld.errors import Cancelled, Ended, InvalidPages, InvalidRow, NoKey
from whoheld.houses import House
from whoheld.states import State

EIGHT = (("open", 1, None), *puts(1, 0, letters(8)))


class HouseCase(unittest.TestCase):
    def refuses(self, house, *rows):
        before = (house.log, house.state.pages, house.open_views())
        for row in rows:
            self.assertEqual(raised(self, InvalidRow, house.take, row).index, len(house.log), row)
            self.assertEqual((house.log, house.state.pages, house.open_views()), before)


class PagesTest(HouseCase):
    def test_pages_from_1_to_8(self):
        for pages in range(1, 9):
            same(self, House(pages=pages).page_count, pages)
        same(self, House().page_count, 8)

    def test_wrong_pages(self):
        for value in ODD_VALUES + (0, 9, 64, "1", "8", (1,), [1], {8: 8}):
            self.assertIs(raised(self, InvalidPages, House, pages=value).value, value)
        raised(self, TypeError, House, 8)

    def test_versions_on_pages_of_the_house_only(self):
        full = house_of(*EIGHT, pages=1)
        self.refuses(full, ("put", 1, 1, 0, "k", "v"), ("change", 1, 0, 0, 1, 0, "v"))
        for pages in range(2, 9):
            house = house_of(*EIGHT, ("put", 1, 1, 0, "k", "v"), ("change", 1, 0, 0, 1, 1, "v"), pages=pages)
            self.assertEqual(len(house.log), 11)

    def test_rows_that_name_a_page(self):
        for pages in range(1, 8):
            house = house_of(*BEGINNING, ("open", 3, None), pages=pages)
            for page in range(pages, 8):
                self.refuses(house, ("clean", page, (), ()), ("tidy", page, (0,)), ("strike", 3, page, 0),
                             ("lock", 3, page, 0), ("refused", 3, page, 0), ("put", 3, page, 0, "k", "v"),
                             ("change", 3, page, 0, 0, 2, "v"), ("change", 3, 0, 0, page, 0, "v"))
            for page in range(pages):
                house.take(("clean", page) + house.state.cleaned(page, 0))
        house = House()
        house.take(("clean", 7, (), ()))
        self.assertEqual(house.log, (("clean", 7, (), ()),))

    def test_the_last_page_of_a_house(self):
        for pages in range(1, 9):
            house = house_of(("open", 1, None), *puts(1, 0, letters(8 * pages)), pages=pages)
            last = pages - 1
            self.refuses(house, ("put", 1, pages % 8, 0, "k", "v"))
            for row in (("strike", 1, last, 7), ("commit", 1), ("tidy", last, (7,)), ("sweep",), ("open", 2, None)):
                house.take(row)
            for row in (("lock", 2, last, 6), ("change", 2, last, 6, last, 7, "w"), ("abort", 2)):
                house.take(row)
            self.refuses(house, ("clean", last, (), ()))
            house.take(("clean", last, (7,), ()))


class TakeTest(HouseCase):
    def test_the_log_and_the_state(self):
        house = House()
        same(self, [house.log, house.state.rows, house.open_views()], [(), (), []])
        for at, row in enumerate(TWO_COMMITS):
            self.assertIsNone(house.take(row=row))
            self.assertEqual(house.log, TWO_COMMITS[:at + 1])
            self.assertIsInstance(house.state, State)
            self.assertEqual((house.state.rows, house.state.pages), (house.log, State.of(house.log).pages))

    def test_any_value(self):
        for house in (House(), house_of(*BEGINNING), house_of(*BEGINNING, pages=1)):
            self.refuses(house, *ODD_VALUES)
            self.refuses(house, ["fall"], ("clean", 0, (8,), ()), ("clean", 8, (), ()), ("word", 99), ("sweep",))

    def test_a_row_is_valid_behind_the_log(self):
        house = house_of(*BEGINNING, ("open", 3, None))
        self.refuses(house, ("put", 3, 0, 3, "k", "v"), ("put", 3, 0, 2, "a", "v"), ("open", 3, None), ("commit", 1))
        house.take(("put", 3, 0, 2, "k", "v"))
        self.assertEqual(len(house.log), 8)

    def test_no_view_is_asked(self):
        house = house_of(*TWO_COMMITS[:3])
        reader = house.reader()
        for row in TWO_COMMITS[3:] + (("clean", 0, (0,), (1,)), ("sweep",)):
            house.take(row)
        self.assertEqual([reader.state, reader.get("k")], ["open", None])

    def test_a_fall_ends_the_open_readers(self):
        house = house_of(*BEGINNING)
        closed, one = house.reader(), house.reader()
        closed.close()
        house.take(("word", 0))
        other = house.reader()
        self.assertEqual(house.open_views(), [6, 7])
        house.take(("fall",))
        self.assertEqual([closed.state, one.state, other.state, house.open_views()], ["closed", "fallen", "fallen", []])

    def test_no_other_row_ends_a_reader(self):
        house = House()
        readers = []
        for row in TWO_COMMITS + (("clean", 0, (0,), (1,)), ("sweep",), ("word", 3), ("open", 3, None), ("abort", 3)):
            readers.append(house.reader())
            house.take(row)
        self.assertEqual({reader.state for reader in readers}, {"open"})
        self.assertEqual(house.open_views(), list(range(len(house.log))))

    def test_a_fall_that_is_no_row_ends_nothing(self):
        house = house_of(*BEGINNING)
        reader = house.reader()
        self.refuses(house, ["fall"], ("fall", 1), "fall")
        self.assertEqual(reader.state, "open")


class OpenViewsTest(HouseCase):
    def test_each_view_once_and_ascending(self):
        house = house_of(*BEGINNING[:3])
        first, second = house.reader(), house.reader()
        house.take(BEGINNING[3])
        third = house.reader()
        same(self, house.open_views(), [3, 4])
        self.assertEqual([first.close(), house.open_views()], [True, [3, 4]])
        self.assertEqual([second.close(), house.open_views()], [True, [4]])
        self.assertEqual([third.close(), house.open_views()], [True, []])

    def test_the_list_belongs_to_the_caller(self):
        house = House()
        reader = house.reader()
        house.open_views().clear()
        self.assertEqual([house.open_views(), reader.state], [[0], "open"])

    def test_prepared_transactions(self):
        house = House()
        for row in (("open", 1, None), ("word", None), ("open", 2, None), ("open", 3, 2), ("commit", 3)):
            house.take(row)
        self.assertEqual(house.open_views(), [])
        house.take(("prepare", 2, 1))
        same(self, house.open_views(), [1])
        house.take(("prepare", 1, 0))
        reader = house.reader()
        same(self, house.open_views(), [0, 1, 7])
        house.take(("fall",))
        same(self, [house.open_views(), reader.state], [[0, 1], "fallen"])
        house.take(("commit", 1))
        same(self, house.open_views(), [1])
        house.take(("abort", 2))
        same(self, house.open_views(), [])

    def test_a_prepared_one_and_a_reader_with_one_view(self):
        house = House()
        reader = house.reader()
        house.take(("open", 1, None))
        house.take(("prepare", 1, 0))
        self.assertEqual(house.open_views(), [0])
        reader.close()
        self.assertEqual(house.open_views(), [0])

    def test_transactions_that_were_opened_by_hand_have_no_view(self):
        house = house_of(*BEGINNING, ("open", 3, None), ("put", 3, 0, 2, "c", "v"))
        self.assertEqual(house.open_views(), [])

    def test_many_readers(self):
        house = House()
        readers = [house.reader() for _ in range(50)]
        for reader in readers[::2]:
            reader.close()
        house.take(("fall",))
        self.assertEqual({reader.state for reader in readers[1::2]}, {"fallen"})
        self.assertEqual({reader.state for reader in readers[::2]}, {"closed"})


class ReadingTest(HouseCase):
    def test_work_that_returns(self):
        house = house_of(*BEGINNING)
        kept = []

        def work(reader):
            kept.append(reader)
            self.assertEqual([reader.state, reader.view, house.open_views()], ["open", 6, [6]])
            return reader.get("a")

        self.assertEqual(house.reading(work), "x")
        self.assertEqual(house.reading(work=lambda reader: list(reader.scan("a", "z"))), [("a", "x"), ("b", "y")])
        self.assertIsNone(house.reading(lambda reader: None))
        self.assertEqual([kept[0].state, house.open_views(), house.log], ["closed", [], BEGINNING])

    def test_work_that_raises(self):
        house = house_of(*BEGINNING)
        kept = []

        def work(reader):
            kept.append(reader)
            return reader["c"]

        self.assertEqual(raised(self, NoKey, house.reading, work).key, "c")
        for error in (ValueError("odd"), RuntimeError(), KeyboardInterrupt()):
            def fail(reader, error=error):
                kept.append(reader)
                raise error
            with self.assertRaises(type(error)) as caught:
                house.reading(fail)
            self.assertIs(caught.exception, error)
        self.assertEqual([reader.state for reader in kept], ["closed"] * 4)
        self.assertEqual(house.open_views(), [])

    def test_work_that_closes_its_reader(self):
        house = House()
        kept = []
        self.assertIs(house.reading(lambda reader: kept.append(reader) or reader.close()), True)
        self.assertEqual(kept[0].state, "closed")
        raised(self, Ended, house.reading, lambda reader: reader.close() and reader.get("a"))

    def test_a_fall_within_the_call(self):
        house = house_of(*BEGINNING)
        kept = []

        def work(reader):
            kept.append(reader)
            house.take(("fall",))
            return reader.state

        self.assertEqual([house.reading(work), kept[0].state, len(house.log)], ["fallen", "fallen", 7])
        raised(self, Ended, kept[0].get, "a")

    def test_a_reader_that_was_cancelled_within_the_call(self):
        house = House()
        kept = []
        self.assertIs(house.reading(lambda reader: kept.append(reader) or reader.finish("cancelled")), True)
        self.assertEqual(kept[0].state, "cancelled")
        raised(self, Cancelled, kept[0].get, "a")

    def test_what_the_work_did_stays(self):
        house = House()

        def work(reader):
            house.take(("open", 1, None))
            house.take(("open", 3, None))

        self.assertEqual(raised(self, InvalidRow, house.reading, work).index, 1)
        self.assertEqual([house.log, house.open_views()], [(("open", 1, None),), []])

    def test_readings_within_one_another(self):
        house = house_of(*BEGINNING)

        def work(reader):
            house.take(("open", 3, None))
            return house.reading(lambda inner: (reader.view, inner.view, house.open_views()))

        self.assertEqual(house.reading(work), (6, 7, [6, 7]))
        self.assertEqual(house.open_views(), [])
