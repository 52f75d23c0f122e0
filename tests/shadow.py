"""A desk once more: each line by itself, over a store and a dict of names."""

import re

from whoheld.bars import bar
from whoheld.errors import InvalidText, NameTaken, NoName, UnknownCommand
from whoheld.floors import spans
from whoheld.held import Held
from whoheld.holders import who
from whoheld.rowtexts import read_row, write_row
from whoheld.store import Store

KEY, TEXT, INTEGER = "[a-z]{1,8}", "[^ ]+", "0|[1-9][0-9]{0,5}"
# By the first word: what each of the others is written like; `...` takes any number of words like the one before it.
TABLE = {
    "begin": "NAME!", "reader": "NAME!", "inner": "NAME! OTHER", "put": "NAME KEY VALUE", "change": "NAME KEY VALUE",
    "strike": "NAME KEY", "lock": "NAME KEY", "get": "NAME? KEY", "scan": "NAME? LOW HIGH", "sign": "NAME",
    "prepare": "NAME", "commit": "NAME", "abort": "NAME", "close": "NAME.", "settle": "N WAY", "clean": "PAGE ...",
    "tidy": "PAGE SLOT ...", "sweep": "", "horizon": "", "synced": "", "hear": "VIEW", "sync": "", "fall": "N", "log": "",
    "load": "ROWS", "fewest": "", "views": "", "stays": "", "spans": "", "who": "ROW", "bar": "",
}
LIKE = {"KEY": TEXT, "VALUE": TEXT, "LOW": TEXT, "HIGH": TEXT, "N": INTEGER, "PAGE": INTEGER, "SLOT": INTEGER,
        "ROW": INTEGER, "VIEW": INTEGER + "|-", "WAY": "commit|abort"}


class Shadow:
    def __init__(self):
        self.store, self.known = Store(), {}

    @property
    def names(self):
        return tuple(sorted(name for name in self.known if self.known[name].state in ("open", "prepared")))

    def say(self, line):
        if not isinstance(line, str) or line.split(" ")[0] not in TABLE:
            raise UnknownCommand()
        word, *words = line.split(" ")
        kinds = TABLE[word].split()
        if word == "load":
            if not words:
                raise UnknownCommand()
            return self.load(line[5:])
        if kinds[-1:] == ["..."]:
            # `clean` and `tidy PAGE` are lines by themselves.
            least = len(kinds) - 2
            kinds = kinds[:least] + [kinds[-2]] * (len(words) - least)
        if len(kinds) != len(words):
            raise UnknownCommand()
        for at, (kind, text) in enumerate(zip(kinds, words), 1):
            like = KEY if kind.rstrip("!?.") in ("NAME", "OTHER") else LIKE[kind]
            if not re.fullmatch(like, text, re.DOTALL):
                raise InvalidText(0, at)
        for kind, text in zip(kinds, words):
            self.check_name(kind, text)
        return getattr(self, word)(*words)

    def check_name(self, kind, name):
        if kind == "NAME!" and name in self.names:
            raise NameTaken(name)
        if kind in ("NAME", "OTHER", "NAME?", "NAME."):
            is_reader = hasattr(self.known.get(name), "close")
            if name not in self.known or (is_reader and kind in ("NAME", "OTHER")) or (not is_reader and kind == "NAME."):
                raise NoName(name)

    def load(self, text):
        rows = []
        for at, part in enumerate(text.split(" / ") if text != "-" else []):
            try:
                rows.append(read_row(part))
            except InvalidText as error:
                raise InvalidText(at, error.word)
        self.store, self.known = Store.of(tuple(rows)), {}
        return "ok"

    def begin(self, name):
        self.known[name] = self.store.begin()
        return str(self.known[name].view)

    def reader(self, name):
        self.known[name] = self.store.reader()
        return str(self.known[name].view)

    def inner(self, name, other):
        self.known[name] = self.known[other].inner()
        return "ok"

    def put(self, name, key, value):
        return " ".join(map(str, self.known[name].put(key, value)))

    def change(self, name, key, value):
        return "done" if self.known[name].change(key, value) else "refused"

    def strike(self, name, key):
        return "done" if self.known[name].strike(key) else "refused"

    def lock(self, name, key):
        return "done" if self.known[name].lock(key) else "refused"

    def get(self, name, key):
        return self.known[name].get(key) or "-"

    def scan(self, name, low, high):
        return " ".join(part for pair in self.known[name].scan(low, high) for part in pair) or "-"

    def sign(self, name):
        return str(self.known[name].sign())

    def prepare(self, name):
        return str(self.known[name].prepare())

    def commit(self, name):
        return "ok" if self.known[name].commit() is None else ""

    def abort(self, name):
        return "ok" if self.known[name].abort() is None else ""

    def close(self, name):
        self.known[name].close()
        return "ok"

    def settle(self, number, way):
        self.store.settle(int(number), commit=way == "commit")
        return "ok"

    def clean(self, *pages):
        before = len(self.store.log)
        self.store.clean(*map(int, pages))
        return " / ".join(write_row(row) for row in self.store.log[before:]) or "-"

    def tidy(self, page, *slots):
        return ",".join(map(str, self.store.tidy(int(page), *map(int, slots)))) or "-"

    def sweep(self):
        return str(self.store.sweep())

    def horizon(self):
        return str(self.store.horizon)

    def synced(self):
        return str(self.store.synced)

    def hear(self, view):
        self.store.hear(None if view == "-" else int(view))
        return "ok"

    def sync(self):
        self.store.sync()
        return "ok"

    def fall(self, lost):
        self.store.fall(lost=int(lost))
        return "ok"

    def log(self):
        return " / ".join(write_row(row) for row in self.store.log) or "-"

    def fewest(self):
        return str(Held(self.store.log).fewest)

    def views(self):
        return pairs(Held(self.store.log).views)

    def stays(self):
        return pairs(Held(self.store.log).stays)

    def spans(self):
        return pairs(spans(self.store.log))

    def who(self, row):
        word, sure, possible, reader = who(self.store.log, int(row))
        parts = [() if word is None else (word,), sure, possible, reader or ()]
        return " ".join(",".join(map(str, part)) or "-" for part in parts)

    def bar(self):
        return " ".join(map(str, bar(self.store.log) or "-"))


def pairs(found):
    return ", ".join(f"{one} {other}" for one, other in found) or "-"
