import unittest

from samples import ODD_VALUES, raised, same
from whoheld.errors import InvalidText
from whoheld.rowtexts import read_row, read_rows, write_row, write_rows

WRITTEN = (
    (("open", 2, 1), "open 2 1"),
    (("open", 1, None), "open 1 -"),
    (("open", 999999, 999998), "open 999999 999998"),
    (("put", 1, 0, 4, "key", "v1"), "put 1 0 4 key v1"),
    (("put", 1, 7, 7, "abcdefgh", "12345678"), "put 1 7 7 abcdefgh 12345678"),
    (("put", 1, 0, 0, "open", "007"), "put 1 0 0 open 007"),
    (("change", 12, 0, 1, 2, 3, "0"), "change 12 0 1 2 3 0"),
    (("strike", 1, 0, 0), "strike 1 0 0"),
    (("lock", 10, 7, 0), "lock 10 7 0"),
    (("refused", 3, 0, 7), "refused 3 0 7"),
    (("commit", 1), "commit 1"),
    (("abort", 999999), "abort 999999"),
    (("prepare", 4, 0), "prepare 4 0"),
    (("prepare", 4, 999999), "prepare 4 999999"),
    (("clean", 0, (1, 3), ()), "clean 0 1,3 -"),
    (("clean", 7, (), ()), "clean 7 - -"),
    (("clean", 7, (), (0, 1, 2, 3, 4, 5, 6, 7)), "clean 7 - 0,1,2,3,4,5,6,7"),
    (("clean", 1, (0,), (7,)), "clean 1 0 7"),
    (("tidy", 0, (5,)), "tidy 0 5"),
    (("tidy", 3, (0, 7)), "tidy 3 0,7"),
    (("sweep",), "sweep"),
    (("word", None), "word -"),
    (("word", 0), "word 0"),
    (("word", 999999), "word 999999"),
    (("fall",), "fall"),
)
# Lines that are no rows, each with the word at which it is wrong.
WRONG_LINES = (
    # An empty word, two spaces, a space at an end.
    ("", 0), (" ", 0), ("  ", 0), (" sweep", 0), (" commit 1", 0), ("commit  1", 1), ("commit 1 ", 2), ("commit 1  ", 2),
    ("commit ", 1), ("sweep ", 1), ("fall ", 1), ("put 1 0  4 key v1", 3), ("put 1 0 4 key v1 ", 6), ("clean 0  -", 2),
    ("clean 0 - ", 3), ("word ", 1), ("open 1 ", 2),
    # Other words in place of the first one.
    ("Sweep", 0), ("sweeps", 0), ("swee", 0), ("-", 0), ("1", 0), ("close 1", 0), ("row 1 2 3", 0), ("sweep,", 0),
    # A word less.
    ("open", 1), ("open 1", 2), ("put", 1), ("put 1", 2), ("put 1 0", 3), ("put 1 0 4", 4), ("put 1 0 4 key", 5),
    ("change 1 0 0 0 1", 6), ("change 1", 2), ("strike 1 0", 3), ("lock 1 0", 3), ("refused 1 0", 3), ("commit", 1),
    ("abort", 1), ("prepare 1", 2), ("prepare", 1), ("clean 0 1", 3), ("clean 0", 2), ("clean", 1), ("tidy 0", 2),
    ("tidy", 1), ("word", 1),
    # A word more.
    ("sweep x", 1), ("sweep sweep", 1), ("fall 1 2 3", 1), ("commit 1 1", 2), ("abort 1 - -", 2), ("open 1 - -", 3),
    ("put 1 0 4 key v1 v2", 6), ("change 1 0 0 0 1 v v", 7), ("strike 1 0 0 0", 4), ("lock 1 0 0 -", 4),
    ("refused 1 0 0 0", 4), ("prepare 1 0 0", 3), ("clean 0 - - -", 4), ("tidy 0 1 2", 3), ("word - -", 2),
    ("word 0 0", 2),
    # The first wrong word is told, whatever stands behind it.
    ("commit x y", 1), ("open 0 1 2 3", 1), ("clean 8 x", 1), ("put 1 0 8", 3), ("put 0", 1), ("open x", 1),
    # Leading zeros and signs.
    ("commit 01", 1), ("commit 001", 1), ("commit +1", 1), ("commit -1", 1), ("commit 1.", 1), ("commit 1_0", 1),
    ("strike 1 00 0", 2), ("strike 1 0 01", 3), ("word 00", 1), ("word 01", 1), ("prepare 1 00", 2), ("open 2 01", 2),
    ("clean 00 - -", 1), ("clean 0 01 -", 2), ("clean 0 - 00", 3), ("tidy 0 01", 2), ("tidy 0 00", 2),
    # Bounds, and other things than numbers.
    ("commit 0", 1), ("commit 1000000", 1), ("commit " + "9" * 5000, 1), ("commit -", 1), ("commit a", 1),
    ("abort 0", 1), ("strike 1 8 0", 2), ("strike 1 0 8", 3), ("strike 1 -1 0", 2), ("strike 1 10 0", 2),
    ("strike 1 - 0", 2), ("strike 0 0 0", 1), ("lock 1 9 0", 2), ("refused 1 0 9", 3), ("word 1000000", 1),
    ("word x", 1), ("word -1", 1), ("word 0,1", 1), ("word 0000000", 1), ("prepare 0 0", 1), ("prepare 1 1000000", 2),
    ("prepare 1 -", 2), ("clean 8 - -", 1), ("clean - - -", 1), ("tidy 8 0", 1), ("change 1 0 0 8 0 v", 4),
    ("change 1 0 0 0 8 v", 5), ("change 1 0 8 0 0 v", 3), ("put 1 8 0 k v", 2), ("open 1000000 -", 1), ("open 0 -", 1),
    ("commit 1a", 1), ("commit None", 1),
    # Outers.
    ("open 1 1", 2), ("open 2 2", 2), ("open 2 3", 2), ("open 2 0", 2), ("open 1 0", 2), ("open 2 x", 2),
    ("open 2 --", 2), ("open 2 None", 2), ("open - -", 1), ("open 5 1000000", 2),
    # Keys and values.
    ("put 1 0 0 k1 v", 4), ("put 1 0 0 K v", 4), ("put 1 0 0 abcdefghi v", 4), ("put 1 0 0 - v", 4),
    ("put 1 0 0 k V", 5), ("put 1 0 0 k 123456789", 5), ("put 1 0 0 k -", 5), ("put 1 0 0  v", 4),
    ("put 1 0 0 k ", 5), ("change 1 0 0 0 1 -", 6), ("change 1 0 0 0 1 v_", 6),
    # Slots.
    ("clean 0 1,0 -", 2), ("clean 0 1,1 -", 2), ("clean 0 - 3,2", 3), ("clean 0 0,2,1 -", 2), ("clean 0 8 -", 2),
    ("clean 0 7,8 -", 2), ("clean 0 1 1", 3), ("clean 0 1,3 0,3", 3), ("clean 0 0,1,2,3,4,5,6,7 0", 3),
    ("clean 0 , -", 2), ("clean 0 0, -", 2), ("clean 0 ,0 -", 2), ("clean 0 0,,1 -", 2), ("clean 0 -,1 -", 2),
    ("clean 0 x -", 2), ("clean 0 0;1 -", 2), ("clean 0 -- -", 2), ("clean 0 - None", 3), ("tidy 0 -", 2),
    ("tidy 0 1,0", 2), ("tidy 0 8", 2), ("tidy 0 0,0", 2), ("tidy 0 ,", 2), ("tidy 0 ()", 2),
)
WRONG_KINDS = tuple(value for value in ODD_VALUES if not isinstance(value, str))


class RowTextsCase(unittest.TestCase):
    def wrong(self, read, text, line, word):
        error = raised(self, InvalidText, read, text)
        same(self, (error.line, error.word), (line, word))


class WritingTest(RowTextsCase):
    def test_each_form(self):
        for row, text in WRITTEN:
            same(self, write_row(row), text)
            same(self, write_row(row=row), text)

    def test_rows(self):
        same(self, write_rows(()), "")
        same(self, write_rows((("sweep",),)), "sweep")
        same(self, write_rows((("word", None), ("fall",))), "word -\nfall")
        rows, texts = tuple(row for row, _ in WRITTEN), [text for _, text in WRITTEN]
        same(self, write_rows(rows=rows), "\n".join(texts))


class ReadingTest(RowTextsCase):
    def test_each_form(self):
        for row, text in WRITTEN:
            same(self, read_row(text), row)
            same(self, read_row(text=text), row)

    def test_all_forms_are_there(self):
        self.assertEqual(len({row[0] for row, _ in WRITTEN}), 14)

    def test_rows(self):
        same(self, read_rows(""), ())
        same(self, read_rows("sweep"), (("sweep",),))
        rows = tuple(row for row, _ in WRITTEN)
        same(self, read_rows(write_rows(rows)), rows)
        same(self, read_rows(text="word -\nword -"), (("word", None), ("word", None)))

    def test_rows_that_cannot_stand_behind_one_another(self):
        same(self, read_rows("commit 7\nopen 7 3\ncommit 7"), (("commit", 7), ("open", 7, 3), ("commit", 7)))

    def test_lines_that_are_no_rows(self):
        for text, word in WRONG_LINES:
            with self.subTest(text=text):
                self.wrong(read_row, text, 0, word)
                self.wrong(read_rows, "fall\n" + text, 1, word)
                self.wrong(read_rows, "fall\nfall\n" + text + "\nfall", 2, word)
                if text != "":
                    self.wrong(read_rows, text, 0, word)
                    self.wrong(read_rows, text + "\n" + text, 0, word)

    def test_a_newline_at_an_end(self):
        self.wrong(read_rows, "sweep\n", 1, 0)
        self.wrong(read_rows, "sweep\nfall\n", 2, 0)
        self.wrong(read_rows, "\nsweep", 0, 0)
        self.wrong(read_rows, "\n", 0, 0)
        self.wrong(read_rows, "sweep\n\nsweep", 1, 0)
        self.wrong(read_rows, "commit x\n", 0, 1)

    def test_a_row_has_one_line(self):
        self.wrong(read_row, "", 0, 0)
        self.wrong(read_row, "sweep\n", 0, 0)
        self.wrong(read_row, "\nsweep", 0, 0)
        self.wrong(read_row, "sweep\nsweep", 0, 0)
        self.wrong(read_row, "commit 1\n", 0, 1)
        self.wrong(read_row, "commit 1\nsweep", 0, 1)
        self.wrong(read_row, "commit 1 \n", 0, 2)
        self.wrong(read_row, "put 1 0 0 k v\n", 0, 5)
        self.wrong(read_row, "put 1 0 0 k\nv", 0, 4)
        self.wrong(read_row, "word -\n", 0, 1)

    def test_values_that_are_no_strings(self):
        for value in WRONG_KINDS + (("sweep",), ["sweep"], 0, {"sweep": "sweep"}, ("sweep", "fall")):
            self.wrong(read_row, value, 0, 0)
            self.wrong(read_rows, value, 0, 0)

    def test_odd_strings(self):
        for value in ODD_VALUES:
            if isinstance(value, str):
                self.wrong(read_row, value, 0, 1 if value == "open" else 0)
