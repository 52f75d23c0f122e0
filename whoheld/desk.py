"""Desks: they answer lines about a store, its transactions and its readers."""

from whoheld.bars import bar
from whoheld.commands import read_command
from whoheld.errors import NameTaken, NoName
from whoheld.fewest import fewest_readers
from whoheld.floors import spans
from whoheld.held import Held
from whoheld.holders import who
from whoheld.papertexts import write_paper
from whoheld.readers import Reader
from whoheld.rowtexts import NOTHING, write_row
from whoheld.store import Store
from whoheld.transactions import Transaction

DONE = "ok"


def _begin(desk, name):
    return _named(desk, name, desk._store.begin())


def _open_reader(desk, name):
    return _named(desk, name, desk._store.reader())


def _named(desk, name, holder):
    desk._holders[name] = holder
    return str(holder.view)


def _inner(desk, name, outer):
    desk._holders[name] = outer.inner()
    return DONE


def _put(desk, transaction, key, value):
    page, slot = transaction.put(key, value)
    return f"{page} {slot}"


def _change(desk, transaction, key, value):
    return _told_deed(transaction.change(key, value))


def _strike(desk, transaction, key):
    return _told_deed(transaction.strike(key))


def _lock(desk, transaction, key):
    return _told_deed(transaction.lock(key))


def _told_deed(done):
    return "done" if done else "refused"


def _get(desk, holder, key):
    value = holder.get(key)
    return NOTHING if value is None else value


def _scan(desk, holder, low, high):
    return _joined(" ", [f"{key} {value}" for key, value in holder.scan(low, high)])


def _sign(desk, transaction):
    return str(transaction.sign())


def _prepare(desk, transaction):
    return str(transaction.prepare())


def _commit(desk, transaction):
    transaction.commit()
    return DONE


def _abort(desk, transaction):
    transaction.abort()
    return DONE


def _close(desk, reader):
    reader.close()
    return DONE


def _settle(desk, number, ending):
    desk._store.settle(number, commit=ending == "commit")
    return DONE


def _clean(desk, *pages):
    cleaned = desk._store.clean(*pages)
    return _joined(" / ", [write_row(("clean",) + told) for told in cleaned])


def _tidy(desk, page, *slots):
    removed = desk._store.tidy(page, *slots)
    return _joined(",", [str(slot) for slot in removed])


def _sweep(desk):
    return str(desk._store.sweep())


def _horizon(desk):
    return str(desk._store.horizon)


def _synced(desk):
    return str(desk._store.synced)


def _hear(desk, word):
    desk._store.hear(word)
    return DONE


def _sync(desk):
    desk._store.sync()
    return DONE


def _fall(desk, lost):
    desk._store.fall(lost=lost)
    return DONE


def _log(desk):
    return _joined(" / ", [write_row(row) for row in desk._store.log])


def _load(desk, rows):
    desk._store = Store.of(rows)
    desk._holders = {}
    return DONE


def _fewest(desk):
    return str(fewest_readers(desk._store.log))


def _views(desk):
    return _told_pairs(Held(desk._store.log).views)


def _stays(desk):
    return _told_pairs(Held(desk._store.log).stays)


def _spans(desk):
    return _told_pairs(list(spans(desk._store.log)))


def _who(desk, row):
    word, sure, possible, reader = who(desk._store.log, row)
    words = [(word,) if word is not None else (), sure, possible, reader or ()]
    return " ".join([_joined(",", [str(part) for part in parts]) for parts in words])


def _bar(desk):
    found = bar(desk._store.log)
    return NOTHING if found is None else write_paper(found)


def _told_pairs(pairs):
    return _joined(", ", [f"{one} {other}" for one, other in pairs])


def _joined(between, texts):
    return between.join(texts) if len(texts) > 0 else NOTHING


ACTIONS = {
    "begin": _begin,
    "reader": _open_reader,
    "inner": _inner,
    "put": _put,
    "change": _change,
    "strike": _strike,
    "lock": _lock,
    "get": _get,
    "scan": _scan,
    "sign": _sign,
    "prepare": _prepare,
    "commit": _commit,
    "abort": _abort,
    "close": _close,
    "settle": _settle,
    "clean": _clean,
    "tidy": _tidy,
    "sweep": _sweep,
    "horizon": _horizon,
    "synced": _synced,
    "hear": _hear,
    "sync": _sync,
    "fall": _fall,
    "log": _log,
    "load": _load,
    "fewest": _fewest,
    "views": _views,
    "stays": _stays,
    "spans": _spans,
    "who": _who,
    "bar": _bar,
}


class Desk:
    """Answers lines about a store with 8 pages, and about transactions and readers that have names."""

    def __init__(self):
        self._store = Store()
        self._holders = {}  # by name, the last transaction or reader that was given it

    @property
    def names(self):
        """The ascending tuple of the names of open and prepared transactions and of open readers."""
        return tuple(sorted([name for name in self._holders if self._is_in_use(name)]))

    def say(self, line):
        """Carries out a line and returns its answer."""
        word, told = read_command(line)
        parts = [self._part(kind, part) for kind, part in told]
        action = ACTIONS[word]
        return action(self, *parts)

    def say_all(self, *lines):
        """Yields the answers of several lines; each is carried out when its answer is requested."""
        for line in lines:
            yield self.say(line)

    def _is_in_use(self, name):
        return name in self._holders and self._holders[name].state in ("open", "prepared")

    def _part(self, kind, part):
        if kind == "new":
            if self._is_in_use(part):
                raise NameTaken(part)
        elif kind in ("transaction", "holder", "reader"):
            return self._holder(kind, part)
        return part

    def _holder(self, kind, name):
        if name not in self._holders:
            raise NoName(name)
        holder = self._holders[name]
        if kind == "transaction" and not isinstance(holder, Transaction):
            raise NoName(name)
        if kind == "reader" and not isinstance(holder, Reader):
            raise NoName(name)
        return holder
