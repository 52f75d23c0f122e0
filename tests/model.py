"""A store once more, without regard to speed: all that it says is read off the rows, by `oracle.Past`.

Each method that may fail returns ("error", name, argument) for an error; nothing has changed then.
"""

from naive import after
from oracle import Past


class Thing:
    """A reader or a transaction of the model."""

    def __init__(self, kind, view, outer=None):
        self.kind, self.view, self.outer = kind, view, outer
        self.number, self.state = None, "open"

    def around(self):
        return [self] if self.outer is None else [self] + self.outer.around()

    def top(self):
        return self.around()[-1]


class Model:
    def __init__(self, pages=8):
        self.pages, self.past, self.synced = pages, Past(()), 0
        self.things = []

    @property
    def log(self):
        return self.past.rows

    def write(self, *row):
        assert self.past.allows(row), (self.log, row)
        outer = row[0] in ("commit", "abort", "prepare") and self.past.numbers.outer[row[1]] is None
        self.past = after(self.past, row)
        if outer or row[0] == "fall":
            self.synced = len(self.log)
        if row[0] == "fall":
            for thing in self.things:
                thing.state = "fallen" if thing.state == "open" else thing.state
        for thing in self.things:
            if thing.state == "prepared" and self.past.numbers.fate(thing.number)[0] != "open":
                thing.state = self.past.numbers.fate(thing.number)[0]

    def add(self, kind, view, outer=None):
        self.things.append(Thing(kind, view, outer))
        return self.things[-1]

    def waiting(self):
        return [(number, view) for number, (_, view) in self.past.numbers.prepares.items()
                if self.past.numbers.fate(number)[0] == "open"]

    def open_views(self):
        views = {thing.view for thing in self.things if thing.state == "open"}
        return sorted(views | {view for _, view in self.waiting()})

    def horizon(self, with_word=True):
        views = self.open_views()
        if with_word and self.past.word() is not None:
            views.append(self.past.word())
        return min(views, default=len(self.log))

    def transactions(self):
        outers = [(thing.number, thing.view) for thing in self.things
                  if thing.kind == "transaction" and thing.outer is None and thing.state == "open"]
        return sorted([pair for pair in outers if pair[0] is not None] + self.waiting())

    # Houses that clean, fall and come back.

    def clean(self, pages):
        found = []
        for page in sorted(set(pages)) or sorted({page for page, slot in self.past.slots if self.past.slots[page, slot]}):
            cleaned = self.past.cleaned(page, self.horizon())
            self.write("clean", page, *cleaned)
            found.append((page,) + cleaned)
        return tuple(found)

    def tidy(self, page, slots):
        for at, slot in enumerate(slots):
            version = self.past.versions().get((page, slot))
            if version is None or slot in slots[:at] or not self.past.is_dead_below(version, self.horizon(False)):
                return ("error", "NotDead", slot)
        if slots:
            self.write("tidy", page, tuple(sorted(slots)))
        return tuple(sorted(slots))

    def sweep(self):
        stubs = [spot for spot, held in self.past.slots.items() if held and "maker" not in held]
        if stubs:
            self.write("sweep")
        return len(stubs)

    def hear(self, word):
        if word is not None and not 0 <= word <= len(self.log):
            return ("error", "InvalidView", word)
        self.write("word", word)
        return None

    def fall(self, lost):
        if not 0 <= lost <= len(self.log) - self.synced:
            return ("error", "InvalidLoss", lost)
        self.past = Past(self.log[:len(self.log) - lost])
        self.write("fall")
        return None

    def settle(self, number, commit):
        if number not in dict(self.waiting()):
            return ("error", "NotPrepared", number)
        self.write("commit" if commit else "abort", number)
        return None

    # Transactions.

    def within(self, thing):
        """Those that are open within it, the innermost first."""
        return sorted((other for other in self.things if other.state == "open" and other != thing
                       and thing in other.around()), key=lambda other: -len(other.around()))

    def wrong_turn(self, thing):
        if thing.state != "open":
            return ("error", "Ended", None)
        within = self.within(thing)
        return ("error", "Busy", within[0].number) if within else None

    def sign(self, thing):
        for member in reversed(thing.around()):
            if member.number is None:
                number = max(self.past.numbers.opened, default=0) + 1
                self.write("open", number, None if member.outer is None else member.outer.number)
                member.number = number
        return thing.number

    def signed(self, thing):
        return self.wrong_turn(thing) or self.sign(thing)

    def due(self):
        due = self.past.due()
        return due if due is not None and due[0] < self.pages else None

    def put(self, thing, key, value):
        past, number = self.past, thing.top().number
        if self.wrong_turn(thing):
            return self.wrong_turn(thing)
        if past.standing(key, number) is not None:
            return ("error", "Taken", key)
        if past.doubts(key, number):
            return ("error", "Blocked", past.doubts(key, number)[0])
        due = self.due()
        if due is None:
            return ("error", "Full", None)
        self.write("put", self.sign(thing), *due, key, value)
        return due

    def deed(self, thing, word, key, value=None):
        """A change, strike or lock."""
        past, number = self.past, thing.top().number
        if self.wrong_turn(thing):
            return self.wrong_turn(thing)
        spot = past.seen(thing.view, number).get(key)
        if spot is None:
            return ("error", "NoKey", key)
        version, own = past.versions()[spot], past.own(number)
        if word == "lock" and (version["maker"] in own or set(version["lockers"]) & set(own)):
            return True
        others = [version["ender"]] + ([] if word == "lock" else version["lockers"])
        rivals = [past.numbers.top(other) for other in others
                  if past.fate_is(other, "open") and past.is_of_another_family(number, other)]
        if rivals:
            return ("error", "Blocked", min(rivals))
        if past.fate_is(version["ender"], "committed"):
            self.write("refused", self.sign(thing), *spot)
            return False
        if word != "change":
            self.write(word, self.sign(thing), *spot)
            return True
        due = self.due()
        if due is None:
            return ("error", "Full", None)
        self.write("change", self.sign(thing), *spot, *due, value)
        return True

    def pairs(self, thing):
        """All that a reader or transaction sees."""
        if thing.state != "open":
            return ("error", "Ended", None)
        seen = self.past.seen(thing.view, thing.top().number)
        return [(key, self.past.slots[seen[key]]["value"]) for key in sorted(seen)]

    def inner(self, thing):
        if self.wrong_turn(thing):
            return self.wrong_turn(thing)
        if len(thing.around()) == 4:
            return ("error", "TooDeep", 3)
        return self.add("transaction", thing.view, thing)

    def leave(self, thing, word):
        if thing.number is not None:
            self.write(word, thing.number)
        thing.state = {"commit": "committed", "abort": "aborted"}[word]

    def commit(self, thing):
        if self.wrong_turn(thing):
            return self.wrong_turn(thing)
        return self.leave(thing, "commit")

    def abort(self, thing):
        if thing.state != "open":
            return ("error", "Ended", None)
        for member in self.within(thing) + [thing]:
            self.leave(member, "abort")
        return None

    def prepare(self, thing):
        if thing.state == "open" and thing.outer is not None:
            return ("error", "NotOuter", None)
        if self.wrong_turn(thing):
            return self.wrong_turn(thing)
        self.write("prepare", self.sign(thing), thing.view)
        thing.state = "prepared"
        return thing.number
