import inspect
import random
import unittest

from driving import OWN_ERRORS
from samples import ODD_VALUES, TWO_COMMITS, raised, same
from shadow import TABLE, Shadow
from whoheld.bars import bar
from whoheld.desk import Desk
from whoheld.errors import Barred, Blocked, Busy, Cancelled, Ended, Full, InvalidKey, InvalidLoss, InvalidRow, InvalidText
from whoheld.errors import InvalidValue, InvalidView, NameTaken, NoKey, NoName, NoPage, NotDead, NotOuter, NotPrepared
from whoheld.errors import NotSpan, Taken, TooDeep, UnknownCommand, Unsettled
from whoheld.rowtexts import write_row

LINES = ("begin a", "put a k x", "commit a", "reader r", "begin b", "change b k y", "commit b", "get r k", "clean")
ANSWERS = ["0", "0 0", "ok", "3", "3", "done", "ok", "x", "clean 0 - 0"]


def desk_after(*lines):
    desk = Desk()
    list(desk.say_all(*lines))
    return desk


def text_of(rows):
    return " / ".join(write_row(row) for row in rows) or "-"


class DeskCase(unittest.TestCase):
    def told(self, desk, *lines):
        return [desk.say(line) for line in lines]

    def fails(self, desk, line, error, *arguments):
        """The line raises just this error, and changes nothing."""
        before = [desk.say("log"), desk.say("synced"), desk.say("horizon"), desk.names]
        found = raised(self, error, desk.say, line)
        same(self, list(vars(found).values()), list(arguments))
        same(self, [desk.say("log"), desk.say("synced"), desk.say("horizon"), desk.names], before)


class LinesTest(DeskCase):
    def test_the_example(self):
        desk = Desk()
        same(self, list(desk.say_all(*LINES)), ANSWERS)
        same(self, list(desk.say_all("close r", "fewest", "stays", "who 6", "spans", "views")),
             ["ok", "1", "5 7", "- - - 3,5", "6 5", "1 0, 2 3"])
        self.fails(desk, "put a  k", InvalidText, 0, 2)
        self.fails(desk, "commit", UnknownCommand)

    def test_an_empty_desk(self):
        desk = Desk()
        for line, answer in (("log", "-"), ("clean", "-"), ("sweep", "0"), ("horizon", "0"), ("synced", "0"), ("fewest", "0"),
                             ("views", "-"), ("stays", "-"), ("spans", "-"), ("bar", "-"), ("sync", "ok"), ("tidy 0", "-")):
            same(self, [desk.say(line), desk.say(line=line)], [answer, answer])
        same(self, desk.names, ())

    def test_deeds(self):
        desk = desk_after("begin a", "put a k x", "put a l y", "commit a", "begin b", "begin c", "begin d")
        same(self, self.told(desk, "change b k z", "get b k", "get c k", "get c q", "scan b a z", "scan c l l", "scan c m z",
                             "strike b l", "put b m 1", "commit b", "get c k", "lock c k", "change d k q", "log"),
             ["done", "z", "x", "-", "k z l y", "l y", "-", "done", "0 3", "ok", "x", "refused", "refused",
              "open 1 - / put 1 0 0 k x / put 1 0 1 l y / commit 1 / open 2 - / change 2 0 0 0 2 z / strike 2 0 1 / "
              "put 2 0 3 m 1 / commit 2 / open 3 - / refused 3 0 0 / open 4 - / refused 4 0 0"])
        same(self, self.told(desk, "begin e", "lock e k", "strike e m", "abort e", "strike d l"),
             ["13", "done", "done", "ok", "refused"])

    def test_inner_ones(self):
        desk = desk_after("begin a", "inner b a", "inner c b")
        same(self, [desk.names, self.told(desk, "sign c", "put c k x", "commit c", "abort b", "sign a", "prepare a")],
             [("a", "b", "c"), ["3", "0 0", "ok", "ok", "1", "1"]])
        same(self, [desk.names, self.told(desk, "settle 1 abort", "log")],
             [("a",), ["ok", "open 1 - / open 2 1 / open 3 2 / put 3 0 0 k x / commit 3 / abort 2 / prepare 1 0 / abort 1"]])
        same(self, desk.names, ())

    def test_cleanings(self):
        desk = desk_after(*LINES, "close r")
        same(self, self.told(desk, "clean 0 7 0", "tidy 0", "clean 1", "sweep", "sweep", "horizon"),
             ["clean 0 0 1 / clean 7 - -", "-", "clean 1 - -", "1", "0", "11"])
        desk = desk_after("begin a", "put a k x", "put a l x", "put a m x", "commit a", "begin b", "strike b k", "strike b m",
                          "commit b")
        same(self, self.told(desk, "tidy 0 2 0", "log")[0], "0,2")
        same(self, self.told(desk, "hear 2", "horizon", "hear -", "horizon", "log")[1:4:2], ["2", "12"])
        same(self, desk.say("log").split(" / ")[-3:], ["tidy 0 0,2", "word 2", "word -"])

    def test_falls(self):
        desk = desk_after("begin a", "put a k x", "commit a", "reader r", "begin b", "strike b k", "begin c", "prepare c",
                          "begin d", "put d m y")
        same(self, [desk.names, desk.say("synced")], [("b", "c", "d", "r"), "7"])
        same(self, self.told(desk, "fall 1", "synced", "log"),
             ["ok", "9", "open 1 - / put 1 0 0 k x / commit 1 / open 2 - / strike 2 0 0 / open 3 - / prepare 3 5 / open 4 - / "
                         "fall"])
        same(self, desk.names, ("c",))
        # A name means the last object that was given it, also when this has ended.
        for line in ("get r k", "get b k", "scan d a z", "commit b", "put c k x"):
            self.fails(desk, line, Ended)
        same(self, self.told(desk, "close r", "settle 3 commit", "begin b", "begin r", "sync", "synced"),
             ["ok", "ok", "10", "10", "ok", "10"])
        self.fails(desk, "close r", NoName, "r")

    def test_papers(self):
        desk = desk_after("load " + text_of(TWO_COMMITS + (("word", 4), ("clean", 0, (), (0,)))))
        same(self, self.told(desk, "fewest", "views", "stays", "spans", "who 7", "bar"),
             ["0", "1 0, 2 3", "-", "7 5", "4 - - 3,5", "-"])
        self.fails(desk, "who 6", NotSpan, 6)
        desk = desk_after("begin a", "put a k x", "commit a", "reader r", "begin b", "begin c", "begin d", "sign d",
                          "change b k y", "commit b", "sign c", "strike c k", "clean", "who 9", "spans")
        same(self, self.told(desk, "who 9", "log"),
             ["- 2,4 - 3,6", "open 1 - / put 1 0 0 k x / commit 1 / open 2 - / open 3 - / change 3 0 0 0 1 y / commit 3 / "
                             "open 4 - / refused 4 0 0 / clean 0 - 0"])

    def test_barred_logs(self):
        rows = TWO_COMMITS + (("fall",), ("clean", 0, (), (0,)))
        desk = desk_after("load " + text_of(rows))
        same(self, self.told(desk, "bar", "spans", "who 7"), ["span 7 6", "7 5", "- - - -"])
        for line in ("fewest", "views", "stays"):
            self.fails(desk, line, Barred, ("span", 7, 6))
        rows = (("fall",), ("open", 1, None), ("prepare", 1, 0))
        same(self, desk_after("load " + text_of(rows)).say("bar"), "range 1 0 2")
        rows = TWO_COMMITS + (("word", 2), ("clean", 0, (), (0,)))
        same(self, desk_after("load " + text_of(rows)).say("bar"), "word 6 7")


class WordsTest(DeskCase):
    RIGHT = (
        "begin n", "reader n", "inner n a", "put a k x", "change a k x", "strike a k", "lock a k", "get a k", "get r k",
        "scan a a z", "scan r a z", "sign a", "prepare a", "commit a", "abort a", "close r", "settle 9 commit",
        "settle 9 abort", "clean", "clean 0", "clean 0 1 2", "tidy 0", "tidy 0 0", "tidy 0 1 2", "sweep", "horizon", "synced",
        "hear 0", "hear -", "sync", "fall 0", "log", "load -", "fewest", "views", "stays", "spans", "who 0", "bar",
    )

    def desk(self):
        return desk_after("begin o", "put o k x", "commit o", "begin a", "reader r")

    def test_each_word_is_in_the_table(self):
        self.assertEqual({line.split(" ")[0] for line in self.RIGHT}, set(TABLE))
        self.assertEqual(len(TABLE), 31)

    def outcome(self, desk, line):
        try:
            return desk.say(line)
        except OWN_ERRORS as error:
            return (type(error), list(vars(error).items()))

    def shadow_after(self):
        shadow = Shadow()
        for line in ("begin o", "put o k x", "commit o", "begin a", "reader r"):
            shadow.say(line)
        return shadow

    def same_outcome(self, line):
        desk, shadow = self.desk(), self.shadow_after()
        told, expected = self.outcome(desk, line), self.outcome(shadow, line)
        same(self, [told, desk.names, desk.say("log")], [expected, shadow.names, shadow.say("log")])
        return told

    def test_each_word_wrong(self):
        kinds = {}
        for line in self.RIGHT:
            words = line.split(" ")
            for at in range(len(words)):
                for other in ("", "\n", "K", "kk", "a\n", "\na", "00", "01", "7", "8", "1000000", "999999", "-", "-1", "a-",
                              "abcdefghi", "commit", "abort", words[at] + "\n", words[at].upper(), "~", "o", "r", "q"):
                    told = self.same_outcome(" ".join(words[:at] + [other] + words[at + 1:]))
                    kind = told[0] if isinstance(told, tuple) else str
                    kinds[kind] = kinds.get(kind, 0) + 1
        for kind in (UnknownCommand, InvalidText, NoName, NameTaken, InvalidKey, InvalidValue, NoPage, InvalidView, str):
            self.assertGreater(kinds.get(kind, 0), 2, kinds)

    def test_words_more_and_fewer(self):
        for line in self.RIGHT:
            words = line.split(" ")
            for at in range(len(words) + 1):
                self.same_outcome(" ".join(words[:at] + words[at + 1:]))
                for other in ("", "k", "1", "-"):
                    self.same_outcome(" ".join(words[:at] + [other] + words[at:]))

    def test_counts_of_words(self):
        desk = self.desk()
        for line in ("", " ", "begin", "begin n n", "begin n ", "reader", "inner n", "inner n a a", "put a k", "put a k x ",
                     "change a k", "strike a", "strike a k k", "lock a", "get a", "get a k k", "scan a a", "scan a a z z", "sign",
                     "prepare", "commit", "abort a a", "close", "settle 1", "settle 1 commit now", "tidy", "sweep 0", "horizon 0",
                     "synced ", "hear", "hear 1 2", "sync 1", "fall", "fall 0 0", "log 0", "load", "fewest 1", "views ", "stays 1",
                     "spans 1", "who", "who 1 2", "bar 1", "Begin n", "begin\nn", "\nbegin n", "start n", " begin n", "say"):
            self.fails(desk, line, UnknownCommand)
        for line, at in (("clean ", 1), ("clean 0 ", 2), ("tidy ", 1), ("tidy 0 ", 2), ("begin ", 1), ("settle 1 done", 2),
                         ("settle x done", 1), ("settle  done", 1), ("put  k ", 1), ("put a  ", 2), ("put a k ", 3),
                         ("put A  ", 1), ("inner n\n a", 1), ("inner n A", 2), ("scan r  z", 2), ("scan r a ", 3), ("hear 00", 1),
                         ("hear --", 1), ("who -", 1), ("fall -", 1), ("clean -", 1), ("tidy 0 -", 2), ("settle - commit", 1),
                         ("clean 0 1 01 2", 3), ("get aaaaaaaaa k", 1)):
            self.fails(desk, line, InvalidText, 0, at)

    def test_any_values(self):
        desk = self.desk()
        for value in ODD_VALUES + (("begin", "n"), ["begin n"], {"begin": "n"}, 0, b"begin n"[0]):
            self.fails(desk, value, UnknownCommand)

    def test_keys_and_values_are_words_of_any_kind(self):
        desk = self.desk()
        for word in ("K", "k\n", "-", "0", "a,b", "aaaaaaaaa", "~", "k-"):
            self.fails(desk, "put a " + word + " x", InvalidKey, word)
            self.fails(desk, "get r " + word, InvalidKey, word)
            self.fails(desk, "scan r a " + word, InvalidKey, word)
            self.fails(desk, "scan a " + word + " Z", InvalidKey, word)
            if word != "0":
                self.fails(desk, "put a q " + word, InvalidValue, word)


class NamesTest(DeskCase):
    def test_names_in_use(self):
        desk = desk_after("begin b", "reader a", "inner c b")
        same(self, desk.names, ("a", "b", "c"))
        for line in ("begin a", "begin b", "begin c", "reader a", "reader c"):
            self.fails(desk, line, NameTaken, line[-1])
        self.fails(desk, "inner a b", NameTaken, "a")
        self.fails(desk, "inner c c", NameTaken, "c")
        # From the left: the name that is given ahead of the one that means nothing.
        self.fails(desk, "inner a q", NameTaken, "a")
        self.fails(desk, "inner q a", NoName, "a")
        self.fails(desk, "inner q q", NoName, "q")
        self.fails(desk, "inner d b", Busy, None)
        same(self, self.told(desk, "commit c", "close a", "reader c", "inner a b"), ["ok", "ok", "0", "ok"])
        same(self, desk.names, ("a", "b", "c"))

    def test_names_that_mean_something_else(self):
        desk = desk_after("begin a", "reader r")
        for line in ("put r k x", "change r k x", "strike r k", "lock r k", "sign r", "prepare r", "commit r", "abort r",
                     "inner n r"):
            self.fails(desk, line, NoName, "r")
        self.fails(desk, "close a", NoName, "a")
        for line in ("put q k x", "get q k", "scan q a z", "close q", "sign q", "abort q"):
            self.fails(desk, line, NoName, "q")
        # Ahead of the errors of the methods, behind those of the words.
        self.fails(desk, "put q K X", NoName, "q")
        self.fails(desk, "put q  X", InvalidText, 0, 2)

    def test_names_are_given_again(self):
        desk = desk_after("begin a", "put a k x", "commit a")
        same(self, self.told(desk, "reader a", "get a k", "close a", "close a", "begin a", "get a k", "abort a", "begin a"),
             ["3", "x", "ok", "ok", "3", "x", "ok", "3"])
        same(self, [desk.names, desk.say("inner b a"), desk.names], [("a",), "ok", ("a", "b")])

    def test_a_line_that_fails_gives_no_name(self):
        desk = desk_after("begin a", "inner b a", "inner c b", "inner d c")
        self.fails(desk, "inner e d", TooDeep, 3)
        self.fails(desk, "get e k", NoName, "e")

    def test_names_never_change_by_hand(self):
        desk = desk_after("begin a")
        with self.assertRaises(AttributeError):
            desk.names = ()
        self.assertEqual(desk.names, ("a",))


class ErrorsTest(DeskCase):
    def test_the_errors_of_transactions(self):
        desk = desk_after("begin a", "put a k x", "commit a", "begin b", "begin c", "change b k y", "inner d c", "begin e")
        self.fails(desk, "put a k x", Ended)
        self.fails(desk, "commit a", Ended)
        self.fails(desk, "put c m x", Busy, None)
        self.fails(desk, "put d k x", Blocked, 2)
        self.fails(desk, "strike d k", Blocked, 2)
        self.fails(desk, "put b k x", Taken, "k")
        self.fails(desk, "strike e q", NoKey, "q")
        self.fails(desk, "prepare d", NotOuter)
        self.fails(desk, "prepare c", Busy, None)
        self.fails(desk, "commit c", Busy, None)

    def test_no_free_slot(self):
        desk = desk_after("begin a", *(f"put a {one}{two} x" for one in "abcdefgh" for two in "abcdefgh"))
        self.fails(desk, "put a z x", Full)

    def test_the_errors_of_the_store(self):
        desk = desk_after(*LINES)
        self.fails(desk, "clean 0 8 9", NoPage, 8)
        self.fails(desk, "tidy 8", NoPage, 8)
        self.fails(desk, "tidy 0 1", NotDead, 1)
        self.fails(desk, "tidy 0 9", NotDead, 9)
        self.fails(desk, "tidy 0 0", NotDead, 0)
        self.fails(desk, "hear 8", InvalidView, 8)
        self.fails(desk, "fall 2", InvalidLoss, 2)
        self.fails(desk, "settle 1 commit", NotPrepared, 1)
        self.fails(desk, "settle 0 abort", NotPrepared, 0)
        self.fails(desk, "settle 999999 abort", NotPrepared, 999999)
        self.fails(desk, "who 5", NotSpan, 5)
        self.fails(desk, "who 999999", NotSpan, 999999)


class LoadTest(DeskCase):
    def test_the_answer_of_log(self):
        desk = desk_after(*LINES, "close r", "clean", "sweep", "hear 3")
        text = desk.say("log")
        other = Desk()
        same(self, self.told(other, "load " + text, "log", "synced", "horizon", "begin b"), ["ok", text, "10", "3", "10"])

    def test_no_name_means_anything_any_more(self):
        desk = desk_after("begin a", "reader r", "load -")
        same(self, [desk.names, desk.say("log")], [(), "-"])
        for line in ("put a k x", "close r", "get r k"):
            self.fails(desk, line, NoName, line.split(" ")[1])

    def test_prepared_ones_go_on(self):
        desk = desk_after("load open 1 - / put 1 0 0 k x / prepare 1 0")
        same(self, self.told(desk, "synced", "horizon", "settle 1 commit", "begin a", "get a k"), ["3", "0", "ok", "4", "x"])

    def test_wrong_texts(self):
        desk = desk_after("begin a", "put a k x")
        for text, line, word in (
            ("", 0, 0), (" ", 0, 0), ("-  ", 0, 0), ("- / fall", 0, 0), ("fall / -", 1, 0), ("fall / ", 1, 0), (" / fall", 0, 0),
            ("fall /", 0, 1), ("fall/ fall", 0, 0), ("fall /  / fall", 1, 0), ("fall / / fall", 1, 0), ("falls", 0, 0),
            ("fall / open 1", 1, 2), ("fall / open 1 - 2", 1, 3), ("fall\n", 0, 0), ("fall\nfall", 0, 0), ("word 1\n", 0, 1),
            ("fall / word\n-", 1, 0), ("fall / clean 0 1 1", 1, 3), ("open 1 1 / x", 0, 2), ("fall / word  1", 1, 1),
        ):
            self.fails(desk, "load " + text, InvalidText, line, word)
        same(self, desk.say("load fall"), "ok")

    def test_rows_that_cannot_stand(self):
        desk = desk_after("begin a", "put a k x")
        self.fails(desk, "load fall / sweep", InvalidRow, 1)
        self.fails(desk, "load open 2 -", InvalidRow, 0)
        self.fails(desk, "load open 1 - / open 2 - / commit 1", Unsettled, 2)
        self.fails(desk, "load open 1 - / open 2 1", Unsettled, 1)
        # The text is read first.
        self.fails(desk, "load sweep / x", InvalidText, 1, 0)


class SayAllTest(DeskCase):
    def test_each_line_when_its_answer_is_requested(self):
        desk = Desk()
        self.assertTrue(inspect.isgeneratorfunction(Desk.say_all))
        answers = desk.say_all("begin a", "put a k x", "put a k x", "commit a")
        same(self, [desk.names, next(answers), desk.names], [(), "0", ("a",)])
        same(self, [desk.say("log"), next(answers), desk.say("log")], ["-", "0 0", "open 1 - / put 1 0 0 k x"])
        with self.assertRaises(Taken):
            next(answers)
        same(self, [list(answers), desk.names], [[], ("a",)])

    def test_by_turns(self):
        desk = Desk()
        one, other = desk.say_all("begin a", "sign a", "commit a"), desk.say_all("sync", "synced", "synced")
        same(self, [next(one), next(other), next(one), next(other), next(one), next(other)], ["0", "ok", "1", "0", "ok", "2"])
        same(self, [list(one), list(other), list(desk.say_all())], [[], [], []])

    def test_lines_that_are_no_strings(self):
        desk = Desk()
        answers = desk.say_all("sync", None, "sync")
        same(self, next(answers), "ok")
        with self.assertRaises(UnknownCommand):
            next(answers)


class RandomTest(DeskCase):
    WORDS = ("k", "k", "l", "l", "m", "K")
    OFTEN = ["put", "change", "change", "strike", "lock", "begin", "begin", "clean", "tidy", "reader", "who", "who"] * 6

    def line(self, rng, store):
        word = rng.choice(list(TABLE) + self.OFTEN)
        if word in ("load", "fall") and rng.random() < 0.6:
            word = "commit"
        words = [word]
        for kind in TABLE[word].split():
            if kind == "...":
                words += [words[-1]] * rng.randrange(2)
            else:
                words.append(self.word(rng, "NAME." if words == ["reader"] else kind, store))
        if rng.random() < 0.04:
            words.insert(rng.randrange(len(words) + 1), rng.choice(("", "k", "0")))
        if rng.random() < 0.04:
            words.pop()
        return " ".join(words)

    def word(self, rng, kind, store):
        if kind.rstrip("!?.") in ("NAME", "OTHER"):
            return rng.choice({"NAME.": "rrrsa", "NAME?": "abrs"}.get(kind, "aaabbbcr"))
        if kind in ("KEY", "LOW", "HIGH"):
            return rng.choice(self.WORDS)
        if kind == "VALUE":
            return rng.choice(("1", "2", "-"))
        if kind == "WAY":
            return rng.choice(("commit", "abort"))
        if kind == "PAGE":
            return rng.choice(("0", "0", "0", "1", "8"))
        if kind == "VIEW":
            return rng.choice(("-", str(len(store.log)), str(max(0, len(store.log) - 4))))
        if kind == "ROW":
            cleanings = [index for index, row in enumerate(store.log) if row[0] == "clean"]
            return str(rng.choice(cleanings[-3:] + [rng.randrange(len(store.log) + 1)]))
        if kind == "ROWS":
            return " / ".join(write_row(row) for row in store.log[:rng.randrange(len(store.log) + 1)])
        return str(rng.randrange(4))

    def outcome(self, desk, line):
        try:
            return desk.say(line)
        except OWN_ERRORS as error:
            return (type(error), list(vars(error).items()))

    def test_beside_a_second_desk(self):
        kinds = {}
        for seed in range(40):
            rng = random.Random(seed)
            desk, shadow = Desk(), Shadow()
            for _ in range(200):
                line = self.line(rng, shadow.store)
                told, expected = self.outcome(desk, line), self.outcome(shadow, line)
                same(self, [told, desk.names], [expected, shadow.names])
                kind = (line.split(" ")[0], "") if isinstance(told, str) else told[0]
                kinds[kind] = kinds.get(kind, 0) + 1
            same(self, [desk.say("log"), desk.say("synced")], [shadow.say("log"), shadow.say("synced")])
            self.assertIsNone(bar(shadow.store.log))
        for word in TABLE:
            self.assertGreater(kinds.get((word, ""), 0), 3, (word, kinds))
        for error in (UnknownCommand, InvalidText, NameTaken, NoName, Ended, Busy, Blocked, Taken, NoKey, NotDead, NoPage):
            self.assertGreater(kinds.get(error, 0), 3, (error, kinds))
        self.assertNotIn(Cancelled, kinds)
