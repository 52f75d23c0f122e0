import unittest

from samples import ODD_VALUES, same, version
from whoheld import pages as pages_file
from whoheld.pages import MOST_PAGES, MOST_SLOTS, due_slot, empty_pages, entries, is_page
from whoheld.slots import is_slot

STUB = ("stub", "k")
VERSION = version("key", "v1", 3, 9, True, (2, 5))
FREE_PAGE = (None,) * 8
FULL_PAGE = (VERSION,) * 8
# For each part of the image of a version, values that fit and values that do not.
PARTS = (
    (("version",), ("stub", "Version", "", None, 1, True, ("version",), ["version"])),
    (("a", "abcdefgh"), ("", "abcdefghi", "k1", "K", "k\n", None, 1, True, ("k",), ["k"])),
    (("a", "0", "abcdefg9"), ("", "abcdefghi", "V", "v\n", "-", None, 1, True, ("v",), ["v"])),
    ((1, 999999), (0, -1, 1000000, True, False, None, "1", (1,), [1])),
    ((1, 3, 999999, None), (0, -1, 1000000, True, False, "1", (1,), [1], ())),
    ((True, False), (0, 1, None, "", "True", (), (True,), [True])),
    (
        ((), (1,), (999999,), (1, 2, 999999), (3, 9)),
        (None, 1, True, "", "1", [], [1], (0,), (1000000,), (True,), (None,), ("1",), ((1,),), (2, 2), (2, 1),
         (1, 3, 2), (1, 2, 2), (1, True), {1: 1}),
    ),
)


def with_part(image, at, part):
    return image[:at] + (part,) + image[at + 1:]


class SlotTest(unittest.TestCase):
    def is_slot_for(self, answer, *values):
        for value in values:
            self.assertIs(is_slot(value), answer, value)
            self.assertIs(is_slot(value=value), answer, value)

    def test_slot_images(self):
        self.is_slot_for(True, None, STUB, VERSION, version("k", "v", 1), version("k", "v", 1, 1, False, (1,)))

    def test_each_part_of_a_version(self):
        for at, (good, bad) in enumerate(PARTS):
            self.is_slot_for(True, *[with_part(VERSION, at, part) for part in good])
            self.is_slot_for(False, *[with_part(VERSION, at, part) for part in bad])
            for part in ODD_VALUES:
                if not any(part is fit for fit in good) and part not in ((), None, "0", "7", "open"):
                    self.is_slot_for(False, with_part(VERSION, at, part))

    def test_each_part_of_a_stub(self):
        self.is_slot_for(True, ("stub", "a"), ("stub", "abcdefgh"))
        self.is_slot_for(False, *[("stub", part) for part in PARTS[1][1]])
        self.is_slot_for(False, *[(part, "k") for part in PARTS[0][1] + ("version",) if part != "stub"])

    def test_a_part_more_or_less(self):
        self.is_slot_for(False, VERSION[:-1], VERSION + (None,), VERSION + ((),), VERSION[1:], VERSION[:2])
        self.is_slot_for(False, ("stub",), ("version",), STUB + ("v",), STUB + (None,), ("stub", "k", "v1", 3, 9, True, ()))

    def test_other_kinds(self):
        self.is_slot_for(False, list(VERSION), list(STUB), (VERSION,), (None,), "stub", "version", {"stub": "k"})
        self.is_slot_for(False, *[value for value in ODD_VALUES if value is not None])

    def test_makers_enders_and_lockers_need_not_fit(self):
        self.is_slot_for(True, version("k", "v", 9, 1, True, (1, 9, 12)), version("k", "v", 5, 5))


class PageTest(unittest.TestCase):
    def test_the_constants(self):
        same(self, [MOST_PAGES, MOST_SLOTS], [8, 8])

    def test_the_interface_is_defined_here(self):
        for name in ("is_page", "empty_pages", "due_slot", "entries"):
            self.assertEqual(vars(pages_file)[name].__module__, "whoheld.pages")

    def test_is_page(self):
        for page in (FREE_PAGE, FULL_PAGE, (None, STUB, VERSION) + (None,) * 5):
            self.assertIs(is_page(page), True)
            self.assertIs(is_page(value=page), True)
        for page in (
            FREE_PAGE[:7], FREE_PAGE + (None,), (), list(FREE_PAGE), (FREE_PAGE,) * 8, None, 8, "        ", True,
            {slot: None for slot in range(8)},
        ):
            self.assertIs(is_page(page), False, page)

    def test_each_slot_of_a_page(self):
        for slot in range(8):
            for image in (0, False, (), ("stub",), ("stub", "K"), list(STUB), list(VERSION), VERSION[:-1]):
                self.assertIs(is_page(with_part(FREE_PAGE, slot, image)), False, (slot, image))
                self.assertIs(is_page(with_part(FULL_PAGE, slot, image)), False, (slot, image))
            for image in (None, STUB, VERSION):
                self.assertIs(is_page(with_part(FULL_PAGE, slot, image)), True, (slot, image))

    def test_any_value_is_asked(self):
        for value in ODD_VALUES:
            self.assertIs(is_page(value), False, value)

    def test_empty_pages(self):
        same(self, empty_pages(), ((None,) * 8,) * 8)


class DueSlotTest(unittest.TestCase):
    def test_the_least_free_slot_of_the_least_page(self):
        self.assertEqual(due_slot(empty_pages()), (0, 0))
        for page in range(8):
            for slot in range(8):
                images = (FULL_PAGE[:slot] + (None,) * (8 - slot),)
                pages = (FULL_PAGE,) * page + images + (FREE_PAGE,) * (7 - page)
                same(self, due_slot(pages), (page, slot))

    def test_one_free_slot_and_each_count(self):
        for page in range(8):
            for slot in range(8):
                pages = with_part((FULL_PAGE,) * 8, page, with_part(FULL_PAGE, slot, None))
                self.assertEqual(due_slot(pages), (page, slot))
                for count in range(1, 9):
                    expected = (page, slot) if page < count else None
                    same(self, due_slot(pages, count), expected)
                    same(self, due_slot(pages=pages, count=count), expected)

    def test_no_free_slot(self):
        for count in range(1, 9):
            self.assertIsNone(due_slot((FULL_PAGE,) * 8, count))
            self.assertIsNone(due_slot(((STUB,) * 8,) * 8, count))
        self.assertIsNone(due_slot((FULL_PAGE,) * 8))

    def test_a_stub_is_not_free(self):
        self.assertEqual(due_slot(((STUB, VERSION, STUB) + (None,) * 5,) + (FREE_PAGE,) * 7), (0, 3))
        self.assertEqual(due_slot(((STUB, None, VERSION, None, STUB, None, None, None),) * 8), (0, 1))


class EntriesTest(unittest.TestCase):
    def test_no_entries(self):
        same(self, entries(empty_pages()), {})

    def test_stubs_and_versions(self):
        pages = (
            (version("m", "v", 1), None, ("stub", "b"), version("b", "v", 1), None, ("stub", "m"), None, ("stub", "z")),
            FREE_PAGE,
            (None, ("stub", "b"), version("a", "v", 1, 2), version("m", "w", 2)) + (None,) * 4,
        ) + (FREE_PAGE,) * 4 + ((None,) * 7 + (version("b", "v", 4),),)
        same(self, entries(pages), {
            "a": ((2, 2),), "b": ((0, 2), (0, 3), (2, 1), (7, 7)), "m": ((0, 0), (0, 5), (2, 3)), "z": ((0, 7),),
        })
        self.assertEqual(list(entries(pages=pages)), ["a", "b", "m", "z"])

    def test_keys_ascend(self):
        keys = ["b", "ab", "a", "c", "ba", "aa", "abc", "z"]
        pages = (tuple(version(key, "v", 1) for key in keys),) + (FREE_PAGE,) * 7
        self.assertEqual(list(entries(pages)), sorted(keys))

    def test_the_dict_belongs_to_the_caller(self):
        pages = ((STUB,) + (None,) * 7,) + (FREE_PAGE,) * 7
        entries(pages).clear()
        same(self, entries(pages), {"k": ((0, 0),)})
