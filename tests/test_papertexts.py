import random
import unittest

from chains import CROSSED, EXAMPLE, chain
from crowds import any_log
from samples import ODD_VALUES, raised, same
from whoheld.errors import InvalidText
from whoheld.fewest import paper
from whoheld.papertexts import read_paper, write_paper

PAPERS = {
    "readers": ("readers", (), (), ()),
    "readers\nview 1 0": ("readers", ((1, 0),), (), ()),
    "readers\nstay 0 1": ("readers", (), ((0, 1),), ()),
    "readers\napart 0": ("readers", (), (), (0,)),
    "readers\nview 1 0\nview 2 3\nstay 5 7\nstay 9 11\napart 6\napart 10":
        ("readers", ((1, 0), (2, 3)), ((5, 7), (9, 11)), (6, 10)),
    "readers\nview 999999 999999\nstay 999999 0\napart 999999": ("readers", ((999999, 999999),), ((999999, 0),), (999999,)),
    # In any order, and repeated; an end need not be greater than its view.
    "readers\nview 3 1\nview 3 1\nview 2 9\nstay 4 4\nstay 4 4\nstay 2 1\napart 7\napart 7\napart 1":
        ("readers", ((3, 1), (3, 1), (2, 9)), ((4, 4), (4, 4), (2, 1)), (7, 7, 1)),
    "readers\nview 1 0\napart 3": ("readers", ((1, 0),), (), (3,)),
    "range 1 6 2": ("range", 1, 6, 2),
    "range 999999 0 0": ("range", 999999, 0, 0),
    "word 0 999999": ("word", 0, 999999),
    "span 7 6": ("span", 7, 6),
}
WORDS = ("", "readers", "view", "stay", "apart", "range", "word", "span", "0", "1", "00", "01", "999999", "1000000", "-", "-1",
         "x", "1x", "+1", "1.0", "1,2", "VIEW", "Readers", "views")


def wrong_at(text):
    """The line and the word at which a text is wrong, or None: by trying what may stand at each place."""
    reached = None
    for at, line in enumerate(text.split("\n")):
        words = line.split(" ")
        if at == 0:
            heads = ["readers", "range", "word", "span"]
        elif reached is None or reached in ("range", "word", "span"):
            heads = []
        else:
            order = ["view", "stay", "apart"]
            heads = order[order.index(reached) if reached in order else 0:]
        if words[0] not in heads:
            return at, 0
        reached = words[0]
        lows = {"readers": [], "view": [1, 0], "stay": [0, 0], "apart": [0], "range": [1, 0, 0], "word": [0, 0], "span": [0, 0]}
        for place, low in enumerate(lows[reached], 1):
            if place >= len(words) or not is_numeral(words[place]) or int(words[place]) < low:
                return at, place
        if len(words) > len(lows[reached]) + 1:
            return at, len(lows[reached]) + 1
    return None


def is_numeral(word):
    return word.isdigit() and str(int(word)) == word and int(word) <= 999999


class TextCase(unittest.TestCase):
    def wrong(self, text, line, word):
        error = raised(self, InvalidText, read_paper, text)
        same(self, [error.line, error.word], [line, word])


class PaperTextsTest(TextCase):
    def test_both_ways(self):
        for text, value in PAPERS.items():
            same(self, [write_paper(value), read_paper(text)], [text, value])
            same(self, [write_paper(value=value), read_paper(text=text)], [text, value])

    def test_papers_of_logs(self):
        logs = [(), EXAMPLE, CROSSED, chain(4)] + [any_log(random.Random(seed), 30) for seed in range(40)]
        for rows in logs:
            value = paper(rows)
            same(self, read_paper(write_paper(value)), value)

    def test_the_first_line(self):
        for text in ("", " ", "\n", "view 1 0", "stay 1 2", "apart 1", "reader", "readers ", " readers", "Readers", "readers\n",
                     "-", "bar", "spans 1 2"):
            self.wrong(text, *wrong_at(text))
        self.wrong("", 0, 0)
        self.wrong("readers ", 0, 1)
        self.wrong("readers x", 0, 1)
        self.wrong("readers\n", 1, 0)
        self.wrong("\nreaders", 0, 0)

    def test_second_lines(self):
        self.wrong("readers\nreaders", 1, 0)
        self.wrong("readers\nview 1 0\nreaders", 2, 0)
        for text in ("range 1 2 3", "word 1 2", "span 1 2"):
            self.wrong(text + "\n", 1, 0)
            self.wrong(text + "\n" + text, 1, 0)
            self.wrong(text + "\nreaders", 1, 0)
            self.wrong(text + "\nview 1 0", 1, 0)
            self.wrong("readers\n" + text, 1, 0)

    def test_the_order_of_the_lines(self):
        self.wrong("readers\nstay 1 2\nview 1 0", 2, 0)
        self.wrong("readers\napart 1\nview 1 0", 2, 0)
        self.wrong("readers\napart 1\nstay 1 2", 2, 0)
        self.wrong("readers\nview 1 0\nstay 1 2\nview 2 0\napart 1", 3, 0)
        # The first wrong line counts, and in it the first wrong word.
        self.wrong("readers\nstay 1 2\nview 0 x\nstay", 2, 0)
        self.wrong("readers\nview 0 x\nstay", 1, 1)

    def test_numbers_and_other_integers(self):
        self.wrong("readers\nview 0 0", 1, 1)
        self.wrong("range 0 0 0", 0, 1)
        for word in ("", "00", "01", "-1", "+1", "1000000", "x", "-", "1.0", "9999999", "0x1", "1,2"):
            self.wrong("readers\nview 1 " + word, 1, 2)
            self.wrong("readers\nview " + word + " 1", 1, 1)
            self.wrong("readers\nstay " + word + " 1", 1, 1)
            self.wrong("readers\nstay 1 " + word, 1, 2)
            self.wrong("readers\napart " + word, 1, 1)
            self.wrong("range 1 2 " + word, 0, 3)
            self.wrong("word 1 " + word, 0, 2)
            self.wrong("span " + word + " 1", 0, 1)

    def test_words_left_out_and_added(self):
        for text in PAPERS:
            lines = text.split("\n")
            for at, line in enumerate(lines):
                words = line.split(" ")
                for other in [words[:-1], words + ["1"], words + [""], words[1:], [""] + words, words[:1]]:
                    changed = "\n".join(lines[:at] + [" ".join(other)] + lines[at + 1:])
                    if wrong_at(changed) is not None:
                        self.wrong(changed, *wrong_at(changed))

    def test_values_that_are_no_strings(self):
        for value in ODD_VALUES + tuple(PAPERS.values()) + (list(PAPERS),):
            self.wrong(value, 0, 0)

    def test_each_change_of_a_text(self):
        seen = 0
        for text in PAPERS:
            for at in range(len(text) + 1):
                for character in " \n01x-,":
                    for changed in (text[:at] + character + text[at:], text[:at] + character + text[at + 1:],
                                    text[:at] + text[at + 1:]):
                        place = wrong_at(changed)
                        if place is not None:
                            self.wrong(changed, *place)
                            seen += 1
                        else:
                            self.assertEqual(write_paper(read_paper(changed)), changed)
        self.assertGreater(seen, 1000)

    def test_texts_of_words_at_random(self):
        rng = random.Random(1)
        right = 0
        for _ in range(4000):
            lines = rng.choice(list(PAPERS)).split("\n")
            for _ in range(rng.randrange(1, 3)):
                at = rng.randrange(len(lines))
                words = lines[at].split(" ")
                words[rng.randrange(len(words))] = rng.choice(WORDS)
                lines[at] = " ".join(words)
                if rng.random() < 0.2:
                    lines.insert(at, rng.choice(lines))
                if rng.random() < 0.1:
                    lines.pop(rng.randrange(len(lines)))
                    lines = lines or [""]
            text = "\n".join(lines)
            if wrong_at(text) is None:
                right += 1
                self.assertEqual(write_paper(read_paper(text)), text)
            else:
                self.wrong(text, *wrong_at(text))
        self.assertGreater(right, 200)
