import unittest

from samples import ODD_VALUES, same
from whoheld.rows import is_row, made, numbers_in, touched

# One row of each form. No two parts of a row can be exchanged, except where EXCHANGEABLE says so.
ROWS = (
    ("open", 9, 3),
    ("put", 9, 0, 1, "k", "1"),
    ("change", 9, 0, 1, 2, 3, "1"),
    ("strike", 9, 0, 1),
    ("lock", 9, 0, 1),
    ("refused", 9, 0, 1),
    ("commit", 9),
    ("abort", 9),
    ("prepare", 9, 0),
    ("clean", 0, (1, 3), (2,)),
    ("tidy", 0, (1, 3)),
    ("sweep",),
    ("word", 9),
    ("fall",),
)
EXCHANGEABLE = {
    "put": [(2, 3)], "change": [(2, 3), (2, 4), (2, 5), (3, 4), (3, 5), (4, 5)], "strike": [(2, 3)],
    "lock": [(2, 3)], "refused": [(2, 3)], "clean": [(2, 3)],
}
NUMBERS = (1, 999999)
PLACES = (0, 7)
# The parts of each form: values that fit at the bounds, and values one beyond.
NUMBER_PART = (NUMBERS, (0, -1, 1000000, True, None, "1", (1,), [1]))
PLACE_PART = (PLACES, (-1, 8, True, False, None, "0", (0,), [0]))
KEY_PART = (("a", "abcdefgh"), ("", "abcdefghi", "a1", "A", "a\n", None, True, 1, ("a",), ["a"]))
VALUE_PART = (("0", "z", "abcdefg9"), ("", "abcdefghi", "A", "a\n", "-", None, True, 1, ("a",), ["a"]))
VIEW_PART = ((0, 999999), (-1, 1000000, True, False, None, "0", (0,), [0]))
TOLD_PART = ((0, 999999, None), (-1, 1000000, True, False, "0", "-", (0,), [0], ()))
OUTER_PART = ((1, 8, None), (0, -1, 9, 10, True, False, "1", (1,), [1], ()))
NO_SLOTS = (
    None, 1, True, "", "1", [1], [], (8,), (-1,), (True,), (False,), (None,), ("1",), ((1,),), ([1],), (4, 4),
    (5, 4), (4, 5, 5), (0, 1, True), {1: 1}, (0, 1, 2, 3, 4, 5, 6, 7, 8),
)
REMOVED_PART = (((), (0,), (7,), (0, 1, 3, 4, 5, 6, 7)), NO_SLOTS + ((2,), (0, 2)))
MARKED_PART = (((), (0,), (7,), (0, 2, 4, 5, 6, 7)), NO_SLOTS + ((1,), (3,), (1, 3), (0, 3)))
TIDIED_PART = (((0,), (7,), (0, 1, 2, 3, 4, 5, 6, 7)), NO_SLOTS + ((),))
SPOT_PARTS = (NUMBER_PART, PLACE_PART, PLACE_PART)
PARTS = {
    "open": (((999999, 4), (3, 2, 0, True, None, "9")), OUTER_PART),
    "put": SPOT_PARTS + (KEY_PART, VALUE_PART),
    "change": SPOT_PARTS + (PLACE_PART, PLACE_PART, VALUE_PART),
    "strike": SPOT_PARTS,
    "lock": SPOT_PARTS,
    "refused": SPOT_PARTS,
    "commit": (NUMBER_PART,),
    "abort": (NUMBER_PART,),
    "prepare": (NUMBER_PART, VIEW_PART),
    "clean": (PLACE_PART, REMOVED_PART, MARKED_PART),
    "tidy": (PLACE_PART, TIDIED_PART),
    "sweep": (),
    "word": (TOLD_PART,),
    "fall": (),
}


def with_part(row, at, part):
    return row[:at] + (part,) + row[at + 1:]


def exchanged(row, one, other):
    return with_part(with_part(row, one, row[other]), other, row[one])


class IsRowTest(unittest.TestCase):
    def test_each_form(self):
        self.assertEqual([row[0] for row in ROWS], list(PARTS))
        self.assertEqual(len(ROWS), 14)
        for row in ROWS:
            self.assertIs(is_row(row), True, row)
            self.assertIs(is_row(value=row), True, row)

    def test_each_part_at_its_bounds_and_one_beyond(self):
        for row in ROWS:
            for at, (good, bad) in enumerate(PARTS[row[0]]):
                for part in good:
                    self.assertIs(is_row(with_part(row, at + 1, part)), True, (row, at, part))
                for part in bad:
                    self.assertIs(is_row(with_part(row, at + 1, part)), False, (row, at, part))

    def test_any_value_as_a_part(self):
        for row in ROWS:
            for at, (good, _) in enumerate(PARTS[row[0]]):
                for part in ODD_VALUES:
                    if not any(part is fit for fit in good) and part not in ("open", "0", "7", (), (0,), None):
                        self.assertIs(is_row(with_part(row, at + 1, part)), False, (row, at, part))

    def test_other_words(self):
        for row in ROWS:
            for word in ODD_VALUES + ("Open", "opens", "ope", "close", "put ", 0, ("open",)):
                if word != "open" or row[0] == "open":
                    word = "close" if word == "open" else word
                    self.assertIs(is_row(with_part(row, 0, word)), False, (row, word))

    def test_words_of_other_forms(self):
        for row in ROWS:
            for other in ROWS:
                fits = len(row) == len(other) and (
                    row[0] == other[0]
                    or {row[0], other[0]} <= {"strike", "lock", "refused"}
                    or {row[0], other[0]} <= {"commit", "abort", "word"}
                    or {row[0], other[0]} <= {"sweep", "fall"}
                    or (row[0], other[0]) == ("open", "prepare")
                )
                self.assertIs(is_row(with_part(row, 0, other[0])), fits, (row, other[0]))

    def test_a_part_more_or_less(self):
        for row in ROWS:
            self.assertIs(is_row(row[:-1]), False, row)
            for part in (None, 0, 1, "k", (), row[-1]):
                self.assertIs(is_row(row + (part,)), False, (row, part))
            for at in range(1, len(row)):
                self.assertIs(is_row(row[:at] + row[at + 1:]), False, (row, at))

    def test_parts_exchanged(self):
        for row in ROWS:
            for other in range(len(row)):
                for one in range(other):
                    fits = (one, other) in EXCHANGEABLE.get(row[0], [])
                    self.assertIs(is_row(exchanged(row, one, other)), fits, (row, one, other))

    def test_lists_and_other_values_are_no_rows(self):
        for row in ROWS:
            self.assertIs(is_row(list(row)), False)
            self.assertIs(is_row((row,)), False)
            self.assertIs(is_row(row[0]), False)
        for value in ODD_VALUES:
            self.assertIs(is_row(value), False, value)

    def test_slots(self):
        for slots, answer in (
            ((0, 1), True), ((1, 0), False), ((1, 1), False), ((0, 2, 1), False), ((0, 1, 2, 3, 4, 5, 6, 7), True),
        ):
            self.assertIs(is_row(("clean", 0, slots, ())), answer, slots)
            self.assertIs(is_row(("clean", 0, (), slots)), answer, slots)
            self.assertIs(is_row(("tidy", 0, slots)), answer, slots)

    def test_no_slot_is_removed_and_marked(self):
        self.assertIs(is_row(("clean", 0, (), ())), True)
        self.assertIs(is_row(("clean", 0, (0, 2), (1, 3))), True)
        self.assertIs(is_row(("clean", 0, (0, 2), (2, 3))), False)
        self.assertIs(is_row(("clean", 0, (7,), (7,))), False)
        self.assertIs(is_row(("tidy", 0, ())), False)

    def test_an_outer_is_less_than_its_number(self):
        for number, outer, answer in ((1, None, True), (1, 1, False), (2, 1, True), (2, 2, False), (2, 3, False)):
            self.assertIs(is_row(("open", number, outer)), answer, (number, outer))

    def test_the_spots_of_a_change_may_be_equal(self):
        self.assertIs(is_row(("change", 1, 0, 0, 0, 0, "v")), True)


class PartsTest(unittest.TestCase):
    def test_numbers_in(self):
        self.assertEqual(numbers_in(("open", 9, 3)), (9, 3))
        self.assertEqual(numbers_in(("open", 9, None)), (9,))
        for row in ROWS[1:9]:
            same(self, numbers_in(row), (9,))
        for row in ROWS[9:] + (("word", None),):
            same(self, numbers_in(row), ())

    def test_touched(self):
        for row in ROWS:
            spot = (0, 1) if row[0] in ("change", "strike", "lock", "refused") else None
            same(self, touched(row), spot)

    def test_made(self):
        spots = {"put": (0, 1), "change": (2, 3)}
        for row in ROWS:
            same(self, made(row), spots.get(row[0]))

    def test_arguments_by_name(self):
        row = ("change", 4, 0, 1, 2, 3, "v")
        self.assertEqual([numbers_in(row=row), touched(row=row), made(row=row)], [(4,), (0, 1), (2, 3)])
