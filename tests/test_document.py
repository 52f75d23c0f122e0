"""Every example of the document, as it stands there: those of `examples.txt`, and those within its sentences."""

import os
import unittest

from samples import raised, same
from whoheld import errors
from whoheld.errors import InvalidText
from whoheld.fates import Fates
from whoheld.rowtexts import read_row, read_rows, write_row

FILE = os.path.join(os.path.dirname(__file__), "examples.txt")


def examples():
    """The pairs of a statement and the lines that it is to show."""
    found = []
    with open(FILE, encoding="utf-8") as file:
        for line in file.read().splitlines():
            if line.startswith(">>> "):
                found.append([line[4:], []])
            elif line.startswith("... "):
                found[-1][0] += "\n" + line[4:]
            elif line:
                found[-1][1].append(line)
    return [(statement, "\n".join(shown)) for statement, shown in found]


def shown_by(statement, names):
    """What a statement shows: the text of its value, the error that it raises, or nothing."""
    try:
        try:
            code = compile(statement, "example", "eval")
        except SyntaxError:
            exec(statement, names)
            return ""
        value = eval(code, names)
    except (errors.HoldError, errors.TurnError, errors.AbsentError, errors.SizeError) as error:
        told = ", ".join(repr(part) for part in vars(error).values())
        return f"raises {type(error).__name__}({told})"
    return "" if value is None else repr(value)


class ExamplesTest(unittest.TestCase):
    def test_every_example(self):
        names = {}
        for statement, shown in examples():
            self.assertEqual(shown_by(statement, names), shown, statement)
        self.assertEqual(len(examples()), 106)
        self.assertEqual(len([shown for _, shown in examples() if shown.startswith("raises")]), 13)


class SentencesTest(unittest.TestCase):
    def test_fates(self):
        fates = Fates(("open", 1, None), ("open", 2, 1), ("commit", 2), ("commit", 1))
        same(self, [fates.fate(2), fates.fate(2, at=3)], [("committed", 3), ("open", None)])

    def test_row_texts(self):
        for text in ("clean 0 1,3 -", "open 2 1", "put 1 0 4 key v1", "word -", "fall"):
            same(self, write_row(read_row(text)), text)
        for text, word in (("open 1 1", 2), ("clean 0 1 1", 3)):
            error = raised(self, InvalidText, read_rows, text)
            same(self, [error.line, error.word], [0, word])
