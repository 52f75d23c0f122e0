import unittest

from samples import same
from whoheld.horizons import horizon_of, word_in_force

OPEN = ("open", 1, None)


class WordInForceTest(unittest.TestCase):
    def test_words(self):
        for rows, word in (
            ((), None),
            ((OPEN, ("commit", 1)), None),
            ((("word", 0),), 0),
            ((OPEN, ("word", 1)), 1),
            ((("word", None),), None),
            ((("word", 0), ("word", None)), None),
            ((("word", None), ("word", 1)), 1),
            ((("word", 0), OPEN, ("word", 2), ("commit", 1)), 2),
            ((OPEN, ("word", 1), ("word", 0)), 0),
        ):
            same(self, word_in_force(rows), word)

    def test_falls(self):
        for rows, word in (
            ((("fall",),), None),
            ((("word", 0), ("fall",)), None),
            ((("word", 0), ("fall",), ("word", 1)), 1),
            ((("word", 0), ("fall",), ("word", None)), None),
            ((("fall",), ("word", 1), OPEN), 1),
            ((("fall",), ("word", 1), ("fall",), OPEN), None),
            ((("word", 0), ("fall",), ("word", 1), ("fall",), ("fall",), ("word", 3)), 3),
        ):
            same(self, word_in_force(rows=rows), word)


class HorizonTest(unittest.TestCase):
    def test_the_least(self):
        for views, word, now, horizon in (
            ([], None, 9, 9), ((), None, 0, 0), ([], 4, 9, 4), ((), 0, 9, 0), ([], 9, 9, 9),
            ([3, 5], None, 9, 3), ((5, 3), None, 9, 3), ([3], 2, 9, 2), ([3], 3, 9, 3), ([3], 4, 9, 3),
            ([0], 2, 9, 0), ([7, 8], 0, 9, 0), ((2, 2), None, 9, 2), ([9], None, 9, 9), ([11], 12, 9, 11),
        ):
            same(self, horizon_of(views, word, now), horizon)
            same(self, horizon_of(views=views, word=word, now=now), horizon)

    def test_the_views_stay_as_they_are(self):
        views = [5, 3]
        horizon_of(views, 1, 9)
        self.assertEqual(views, [5, 3])
