import random
import unittest

from chains import CROSSED, EXAMPLE, STAYS, VIEWS, chain, spread
from crowds import any_log, longer
from samples import ODD_VALUES, TWO_COMMITS, raised, same
from showing import Showing
from whoheld.barcheck import shows_bar, shows_paper
from whoheld.bars import bar
from whoheld.errors import InvalidRow
from whoheld.fewest import paper

ODD = ODD_VALUES + ("range", "word", "span", ("range",), ("word", 6), ("span", 6, 7, 8))
# One log for each kind of bar.
RANGE = (("open", 1, None), ("put", 1, 0, 0, "k", "a"), ("open", 2, None), ("commit", 1), ("open", 3, 2), ("lock", 3, 0, 0))
WORD = TWO_COMMITS + (("word", 2), ("clean", 0, (), (0,)))
SPAN = TWO_COMMITS + (("fall",), ("clean", 0, (), (0,)))
BARS = {RANGE: ("range", 2, 5, 2), WORD: ("word", 6, 7), SPAN: ("span", 7, 6)}


def changed(value):
    """The tuple with each entry otherwise, left out or twice, and with an entry more."""
    for at, part in enumerate(value):
        others = [str(part), [part], (part,), None, True, False]
        others += [part + 1, part - 1, -part] if type(part) is int else ["range", "word", "span", "", part + " "]
        for other in others:
            if other != part or type(other) is not type(part):
                yield value[:at] + (other,) + value[at + 1:]
        yield value[:at] + value[at + 1:]
        yield value[:at] + (part,) + value[at:]
    yield value + (0,)
    yield list(value)
    yield (value,)


class ShowsBarTest(unittest.TestCase):
    def both(self, rows, value, told):
        same(self, [shows_bar(rows, value), shows_paper(rows, value)], [told, told])
        same(self, [shows_bar(rows=rows, value=value), shows_paper(rows=rows, value=value)], [told, told])

    def test_each_kind(self):
        for rows, value in BARS.items():
            same(self, bar(rows), value)
            self.both(rows, value, True)

    def test_each_entry_otherwise(self):
        for rows, value in BARS.items():
            showing = Showing(rows)
            self.assertEqual(showing.bars(), {value})
            for other in changed(value):
                self.both(rows, other, False)

    def test_all_values_of_their_form(self):
        for rows in BARS:
            bars = Showing(rows).bars()
            indexes = range(-1, len(rows) + 1)
            for one in indexes:
                for other in indexes:
                    for word in ("word", "span"):
                        self.assertIs(shows_bar(rows, (word, one, other)), (word, one, other) in bars)
                    for number in range(5):
                        value = ("range", number, one, other)
                        self.assertIs(shows_bar(rows, value), value in bars)

    def test_inner_numbers_have_no_range(self):
        self.both(RANGE, ("range", 3, 5, 2), False)
        self.both(RANGE, ("range", 3, 5, 4), False)

    def test_rows_that_show_a_number(self):
        # The low rows: the lock row 7, the clean row 10 and the fall; the high rows: the open row 6 and the prepare row.
        rows = (("fall",),) + RANGE[:4] + (("fall",), ("open", 3, None), ("clean", 0, (), (0,)), ("lock", 3, 0, 0),
                                           ("prepare", 3, 0))
        bars = {("range", 3, low, 9) for low in (0, 5, 7, 8)}
        self.assertEqual(Showing(rows).bars(), bars)
        for low in range(10):
            for high in range(10):
                value = ("range", 3, low, high)
                self.both(rows, value, value in bars)

    def test_word_rows_that_are_not_the_last_one(self):
        rows = TWO_COMMITS + (("word", 2), ("word", 2), ("clean", 0, (), (0,)), ("word", 2), ("clean", 0, (0,), (1,)))
        for value, told in ((("word", 6, 8), False), (("word", 7, 8), True), (("word", 7, 10), False), (("word", 9, 10), True),
                            (("word", 9, 8), False), (("word", 8, 8), False)):
            self.both(rows, value, told)
        rows = TWO_COMMITS + (("word", 2), ("fall",), ("clean", 0, (0,), (1,)))
        self.both(rows, ("word", 6, 8), False)
        rows = TWO_COMMITS + (("word", 2), ("word", None), ("clean", 0, (0,), (1,)))
        self.both(rows, ("word", 6, 8), False)
        self.both(rows, ("word", 7, 8), False)
        rows = TWO_COMMITS + (("word", 2), ("tidy", 0, (0,)))
        self.both(rows, ("word", 6, 7), False)

    def test_words_at_the_floor(self):
        for word in range(7):
            rows = TWO_COMMITS + (("word", word), ("clean", 0, (), (0,)))
            self.both(rows, ("word", 6, 7), word <= 2)

    def test_spans_that_are_held(self):
        rows = SPAN[:6] + (("fall",), ("word", 5), ("clean", 0, (), (0,)))
        self.both(rows, ("span", 8, 6), False)
        self.both(SPAN + (("fall",),), ("span", 7, 6), True)
        self.both(SPAN + (("fall",),), ("span", 7, 8), False)

    def test_any_values(self):
        for rows in BARS:
            for value in ODD:
                self.both(rows, value, False)
                for at in range(3):
                    if value != BARS[rows][at]:
                        self.both(rows, BARS[rows][:at] + (value,) + BARS[rows][at + 1:], False)

    def test_logs_at_random(self):
        seen = 0
        for seed in range(100):
            rng = random.Random(seed)
            rows = any_log(rng, 30)
            showing = Showing(rows)
            bars = sorted(showing.bars())
            for value in bars:
                self.both(rows, value, True)
                for other in rng.sample(list(changed(value)), 4):
                    self.both(rows, other, showing.is_bar(other))
            seen += len(bars)
            for _ in range(20):
                value = (rng.choice(("range", "word", "span")),) + tuple(rng.randrange(-1, 31) for _ in range(3))
                value = value if value[0] == "range" else value[:3]
                self.both(rows, value, showing.is_bar(value))
        self.assertGreater(seen, 100)


class ShowsPaperTest(unittest.TestCase):
    def test_papers_of_both_kinds(self):
        self.assertIs(shows_paper(EXAMPLE, ("readers", VIEWS, STAYS, (6, 10))), True)
        self.assertIs(shows_paper(EXAMPLE, ("readers", VIEWS, STAYS, (6,))), False)
        self.assertIs(shows_bar(EXAMPLE, ("readers", VIEWS, STAYS, (6, 10))), False)
        for rows in (EXAMPLE, CROSSED, chain(3), spread((3, 4)), ()) + tuple(BARS):
            self.assertIs(shows_paper(rows, paper(rows)), True)
            self.assertIs(shows_bar(rows, paper(rows)), rows in BARS)

    def test_papers_of_other_logs(self):
        logs = [EXAMPLE, CROSSED, chain(3), spread((3, 4)), ()] + list(BARS)
        for rows in logs:
            for other in logs:
                self.assertIs(shows_paper(rows, paper(other)), rows == other)

    def test_papers_and_beginnings(self):
        for seed in range(40):
            rows = longer(random.Random(seed), list(BARS)[seed % 3], 15)
            told = paper(rows)
            for length in range(len(rows)):
                beginning = rows[:length]
                showing = Showing(beginning) if told[0] != "readers" and length > 5 else None
                expected = showing is not None and showing.is_bar(told)
                self.assertIs(shows_paper(beginning, told), expected)
                if paper(beginning)[0] != "readers":
                    self.assertIs(shows_paper(rows, paper(beginning)), True)


class LogErrorsTest(unittest.TestCase):
    def test_rows_that_are_not_valid(self):
        for function in (shows_bar, shows_paper):
            for told in (None, ("span", 7, 6), ("range", 2, 5, 2)):
                for at in (0, 3, 6):
                    for value in ODD_VALUES + (("sweep",), ["fall"]):
                        rows = SPAN[:at] + (value,) + SPAN[at:]
                        self.assertEqual(raised(self, InvalidRow, function, rows, told).index, at)
                for value in ODD_VALUES + (list(SPAN),):
                    if not isinstance(value, tuple):
                        self.assertEqual(raised(self, InvalidRow, function, value, told).index, 0)
