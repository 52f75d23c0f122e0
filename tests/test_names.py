import unittest

from samples import ODD_VALUES
from whoheld.names import is_below, is_integer, is_key, is_number, is_spot, is_value


class NamesTest(unittest.TestCase):
    def all_are(self, answer, check, *values):
        for value in values:
            self.assertIs(check(value), answer, (check.__name__, value))

    def test_is_integer(self):
        self.all_are(True, is_integer, 0, 1, -1, 7, 999999, 1000000, 10 ** 59, -(10 ** 59))
        self.all_are(False, is_integer, True, False, None, "", "1", (), (1,), [1], {1: 1})

    def test_is_below(self):
        for value, limit, answer in (
            (0, 1, True), (1, 1, False), (0, 0, False), (-1, 8, False), (7, 8, True), (8, 8, False), (9, 8, False),
            (True, 8, False), (False, 8, False), (None, 8, False), ("1", 8, False), ((1,), 8, False), ([], 8, False),
            ({}, 8, False), (10 ** 59, 8, False), (999999, 1000000, True), (1000000, 1000000, False), (0, -1, False),
        ):
            self.assertIs(is_below(value, limit), answer, (value, limit))

    def test_is_key(self):
        self.all_are(True, is_key, "a", "z", "az", "abcdefgh", "zzzzzzzz", "open")
        self.all_are(
            False, is_key, "", "abcdefghi", "A", "aB", "a1", "1", "a ", " a", "a\n", "\n", "a\nb", "a-", "-", "_", "{",
            "`", "~", "a" * 6000, None, True, 1, ("a",), ["a"], {"a": "a"},
        )

    def test_is_value(self):
        self.all_are(True, is_value, "a", "z", "0", "9", "a0", "00000000", "abcdefgh", "12345678", "z9")
        self.all_are(
            False, is_value, "", "123456789", "abcdefghi", "A", "0A", " 0", "0 ", "0\n", "\n", "-", "/", ":", "`", "{",
            "0" * 6000, None, True, 0, 12, ("0",), ["0"], {"0": "0"},
        )

    def test_is_number(self):
        self.all_are(True, is_number, 1, 2, 60, 999998, 999999)
        self.all_are(False, is_number, 0, -1, 1000000, 10 ** 59, True, False, None, "1", (1,), [1], {1: 1})

    def test_is_spot(self):
        for page in range(8):
            for slot in range(8):
                self.assertIs(is_spot((page, slot)), True)
        self.all_are(
            False, is_spot, (8, 0), (0, 8), (-1, 0), (0, -1), (True, 0), (0, False), (None, 0), (0, None), ("0", 0),
            (0,), (), (0, 0, 0), [0, 0], 0, None, "00", {0: 0, 1: 1}, ((0, 0),), ((0, 0), (0, 0)), ([0], 0),
        )

    def test_any_value_gets_an_answer(self):
        for value in ODD_VALUES:
            for check in (is_integer, is_key, is_value, is_number, is_spot):
                self.assertIsInstance(check(value), bool)
            self.assertIsInstance(is_below(value, 8), bool)

    def test_arguments_by_name(self):
        for check, value in ((is_integer, 1), (is_key, "a"), (is_value, "1"), (is_number, 1), (is_spot, (0, 0))):
            self.assertIs(check(value=value), True)
        self.assertIs(is_below(limit=3, value=2), True)
